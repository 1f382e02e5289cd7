import PyProof.Rows.All
import Wide.All
import OpenK.AllK
import Wide.FinOn
import Lean
import PyProof.EqAt
import PyProof.EqKinds
import PyProof.TupleCall
import PyProof.NeKinds
import PyProof.Rows.SortStr
import PyProof.Rows.SortWalk
import KE.KDictOf
import PyProof.AttrMissSeq
import KE.KDictSum
import PyProof.ListMulRoad
import PyProof.FactsAll.tuple_2
import PySem.Challenge.RW_reelhall_k01_dances
set_option Elab.async false
set_option linter.all false
set_option maxRecDepth 100000
/-! THE HAND LAYER, for ints, bools, texts, own classes, LISTS and tuples (index, slices, in, append, pop ..), calls, loops. Paste it whole ahead of your own text; what your proof does not reach may be deleted. -/
namespace L2
open PySem PySem.Spec PyProof.Rows

/-- a key: an int or a str -/
abbrev Key := Sum Int Str
def keyIs : Key → Value → Bool
  | .inl k, v => Value.isInt k v
  | .inr x, v => Value.isStrOf x v
def keyH (w : World) : Key → Int
  | .inl k => hashInt k
  | .inr x => hashStr w x
theorem keyIs_shape : ∀ {k : Key} {v : Value}, keyIs k v = true → (∃ i t, k = Sum.inl i ∧ v = Value.int i t) ∨ (∃ x t, k = Sum.inr x ∧ v = Value.str x t)
  | .inl i, v, h => by
    obtain ⟨t, e⟩ := Value.isInt_shape (k := i) (v := v) h
    exact .inl ⟨i, t, rfl, e⟩
  | .inr x, v, h => by
    obtain ⟨t, e⟩ := Value.isStrOf_shape (x := x) (v := v) h
    exact .inr ⟨x, t, rfl, e⟩
theorem key_ll (a b : Int) : decide ((Sum.inl a : Key) = Sum.inl b) = (a == b) := by
  by_cases e : a = b
  · subst e; simp
  · have h : ¬ (Sum.inl a : Key) = Sum.inl b := fun q => e (Sum.inl.inj q)
    rw [decide_eq_false h]
    exact (beq_eq_false_iff_ne.mpr e).symm
theorem key_rr (a b : Str) : decide ((Sum.inr a : Key) = Sum.inr b) = decide (a = b) := by
  by_cases e : a = b
  · subst e; simp
  · have h : ¬ (Sum.inr a : Key) = Sum.inr b := fun q => e (Sum.inr.inj q)
    rw [decide_eq_false h, decide_eq_false e]
theorem key_lr (a : Int) (b : Str) : decide ((Sum.inl a : Key) = Sum.inr b) = false := decide_eq_false (fun q => nomatch q)
theorem key_rl (a : Str) (b : Int) : decide ((Sum.inr a : Key) = Sum.inl b) = false := decide_eq_false (fun q => nomatch q)

def mixKind (prog : Program) (w : World) : PySem.KeyKind prog w Key where
  is := keyIs
  hash := keyH w
  inj := fun v a b ha hb => by
    rcases keyIs_shape ha with ⟨i, t, rfl, rfl⟩ | ⟨x, t, rfl, rfl⟩
    · rcases keyIs_shape hb with ⟨j, u, rfl, e⟩ | ⟨y, u, rfl, e⟩
      · injection e with e1 _; rw [e1]
      · exact nomatch e
    · rcases keyIs_shape hb with ⟨j, u, rfl, e⟩ | ⟨y, u, rfl, e⟩
      · exact nomatch e
      · injection e with e1 _; rw [e1]
  byValue := fun k v h => by
    rcases keyIs_shape h with ⟨i, t, rfl, rfl⟩ | ⟨x, t, rfl, rfl⟩ <;> rfl
  pyHash := fun hv h => by
    rcases keyIs_shape hv with ⟨i, t, rfl, rfl⟩ | ⟨x, t, rfl, rfl⟩
    · exact wpAny_pyHash_int h
    · exact wpAny_pyHash_str h
  eqBool := fun hu hv h => by
    rcases keyIs_shape hu with ⟨i, t, rfl, rfl⟩ | ⟨x, t, rfl, rfl⟩
    · rcases keyIs_shape hv with ⟨j, u, rfl, rfl⟩ | ⟨y, u, rfl, rfl⟩
      · rw [key_ll] at h; exact wpAny_eqBool_int h
      · rw [key_lr] at h; exact SeqAt.EqAt.int_str i t y u _ _ _ _ h
    · rcases keyIs_shape hv with ⟨j, u, rfl, rfl⟩ | ⟨y, u, rfl, rfl⟩
      · rw [key_rl] at h; exact SeqAt.EqAt.str_int x t j u _ _ _ _ h
      · rw [key_rr] at h; exact wpAny_eqBool_str h
  «strs» := fun k x t v h => by
    rcases keyIs_shape h with ⟨i, u, rfl, e⟩ | ⟨y, u, rfl, e⟩
    · exact nomatch e
    · injection e with e1 _
      subst e1
      cases v <;> rfl

end L2

namespace L2
open PySem PySem.Spec PyProof.Rows

/-- a value, without the heap -/
inductive V where
  | non | bl (b : Bool) | int (i : Int) | str (x : Str) | byt (b : Array UInt8) | flt (b : UInt64) | ref (a : Addr) | ty (n : String)
  deriving DecidableEq

def RelV : V → Value → Prop
  | .non, u => u = Value.none
  | .bl b, u => u = Value.bool b
  | .int i, u => ∃ t, u = Value.int i t
  | .str x, u => ∃ t, u = Value.str x t
  | .byt b, u => ∃ t, u = Value.bytes b t
  | .flt b, u => ∃ t, u = Value.float b t
  | .ref a, u => u = Value.ref a
  | .ty n, u => u = Value.type n

abbrev Vals : List V → List Value → Prop := Paired RelV
theorem Vals.length {xs : List V} {us : List Value} (r : Vals xs us) : xs.length = us.length := Paired.length r
theorem Vals.get : ∀ {xs : List V} {us : List Value} {i : Nat} {x : V}, Vals xs us → xs[i]? = some x → ∃ u, us[i]? = some u ∧ RelV x u
  | _, _, _, _, .nil, e => by simp at e
  | _, _, 0, _, .cons r _, e => by simp at e; subst e; exact ⟨_, rfl, r⟩
  | _, _, i + 1, x, .cons _ t, e => by
    obtain ⟨u, h1, h2⟩ := Vals.get (i := i) (x := x) t (by simpa using e)
    exact ⟨u, by simpa using h1, h2⟩
theorem Vals.set {x : V} {u : Value} (r : RelV x u) : ∀ {xs : List V} {us : List Value} (i : Nat), Vals xs us → Vals (xs.set i x) (us.set i u)
  | _, _, _, .nil => .nil
  | _, _, 0, .cons _ t => .cons r t
  | _, _, i + 1, .cons q t => .cons q (Vals.set r i t)
theorem Vals.append : ∀ {xs ys : List V} {us ws : List Value}, Vals xs us → Vals ys ws → Vals (xs ++ ys) (us ++ ws)
  | _, _, _, _, .nil, s => s
  | _, _, _, _, .cons r t, s => .cons r (Vals.append t s)
theorem Vals.take : ∀ {xs : List V} {us : List Value} (n : Nat), Vals xs us → Vals (xs.take n) (us.take n)
  | _, _, 0, _ => .nil
  | _, _, _ + 1, .nil => .nil
  | _, _, n + 1, .cons r t => .cons r (Vals.take n t)
theorem Vals.drop : ∀ {xs : List V} {us : List Value} (n : Nat), Vals xs us → Vals (xs.drop n) (us.drop n)
  | _, _, 0, r => r
  | _, _, _ + 1, .nil => .nil
  | _, _, n + 1, .cons _ t => Vals.drop n t
def RelO : Option V → Option Value → Prop
  | some v, some u => RelV v u
  | none, none => True
  | _, _ => False
def KV {κ : Type} : List (κ × V) → List (κ × Value) → Prop := Paired fun (p : κ × V) (q : κ × Value) => p.1 = q.1 ∧ RelV p.2 q.2

/-- a key of a dict (00_mix): an int or a text -/
def kV : Key → V
  | .inl i => .int i
  | .inr x => .str x

/-- what stands at a tracked address -/
inductive HO where
  /-- a list -/
  | lst (xs : List V)
  /-- a tuple (never changes) -/
  | tup (xs : List V)
  /-- a dict whose keys are ints and texts; one whose keys are tuples of ints and texts (the empty one is both) -/
  | dK (kvs : List (Key × V)) | dT (kvs : List (List Key × V))
  /-- a set of ints: its members, its size -/
  | set (S : Int → Bool) (n : Nat)
  /-- an instance of the class at C, its dict at dx, its attributes -/
  | ins (C dx : Addr) (fs : List (Str × V))
  /-- the dict of the instance at x -/
  | own (x : Addr)
  /-- the dict of an exception -/
  | xd (fs : List (Str × V))
  /-- a bound method, f of x -/
  | met (f x : Addr)
  /-- a range object lo, lo + 1, .. below hi -/
  | rng (lo hi : Int)
  /-- a thing that is known to the object (the script; a dict while a loop walks it): read, never written while it is so -/
  | frz (o : Obj) (u : HO)
  /-- a code object's table -/
  | tbl (ps : Array Value)
  /-- any other thing, by what is true of its one object (a def of one's own: SetO a S n := HO.ext fun h => ..) -/
  | ext (φ : Heap → Prop)

def IsTupN (h : Heap) (a : Addr) (items : Array Value) : Prop := ∃ o, h.get? a = some o ∧ o.cls = .type "tuple" ∧ ∃ n, o.data = .seq items n ∧ o.dict = none
theorem IsTupN.tup {h : Heap} {a : Addr} {items : Array Value} (x : IsTupN h a items) : IsTup h a items := let ⟨o, e, c, n, d, _⟩ := x; ⟨o, e, c, n, d⟩
theorem IsTupN.lt {h : Heap} {a : Addr} {items : Array Value} (x : IsTupN h a items) : a < h.objs.size := x.tup.lt
theorem IsTupN.new (h : Heap) (items : Array Value) : IsTupN (h.push { cls := .type "tuple", data := .seq items }) h.objs.size items := ⟨_, Heap.get?_push_size _ rfl, rfl, _, rfl, rfl⟩

abbrev Hp := Addr → Option HO
def upd (H : Hp) (a : Addr) (o : HO) : Hp := fun b => if b = a then some o else H b
theorem upd_same {H : Hp} {a : Addr} {o : HO} : upd H a o a = some o := by unfold upd; rw [if_pos rfl]
theorem upd_ne {H : Hp} {a b : Addr} {o : HO} (h : b ≠ a) : upd H a o b = H b := by unfold upd; rw [if_neg h]
theorem ne_of_none {H : Hp} {a b : Addr} {o : HO} (h : H a = some o) (h' : H b = none) : a ≠ b := by
  intro e; subst e; rw [h] at h'; cases h'

section
variable (P : Program) (w : World)
def ObjOk (H : Hp) (h : Heap) (a : Addr) : HO → Prop
  | .lst xs => xs.length ≤ sizeLine ∧ ∃ (its : List Value) (n : Nat), Vals xs its ∧ h.get? a = some { cls := .type "list", data := .seq its.toArray n }
  | .tup xs => xs.length ≤ sizeLine ∧ ∃ its : List Value, Vals xs its ∧ IsTupN h a its.toArray
  | .dK kvs => kvs.length ≤ sizeLine ∧ (a == sysModules) = false ∧ ∃ vs, KV kvs vs ∧ h.DictOf (mixKind P w) a vs
  | .dT kvs => kvs.length ≤ sizeLine ∧ (a == sysModules) = false ∧ ∃ xs : List (List Key × Addr × Value),
      Paired (fun (p : List Key × V) (q : List Key × Addr × Value) => p.1 = q.1 ∧ H q.2.1 = some (.tup (p.1.map kV)) ∧ RelV p.2 q.2.2) kvs xs ∧
      ∃ o es ep, h.get? a = some o ∧ o.ExactDict ∧ o.data = .dict es ep ∧ es.toList = xs.map (entryOfKey (tupleKind (mixKind P w))) ∧ (xs.map (·.1)).Nodup
  | .set S n => h.SetOf (intKind P w) a S n
  | .ins C dx fs => H dx = some (.own a) ∧ fs.length ≤ 1000 ∧ dx ≠ a ∧ h.get? a = some (PySem.W.instObj C dx) ∧
      ∃ mA, h.Ns1 dx mA ∧ (∀ f, RelO (fs.lookup f) (mA f)) ∧ PySem.Within mA (fs.map (·.1))
  | .own _ => ∃ o, h.get? a = some o
  | .xd fs => ∃ mA, h.Ns1 a mA ∧ ∀ f, RelO (fs.lookup f) (mA f)
  | .rng lo hi => ∃ t u v, h.get? a = some { cls := .type "range", data := .fields #[.int lo t, .int hi u, .int 1 v] }
  | .frz o u => h.get? a = some o ∧ ObjOk H h a u
  | .tbl ps => h.get? a = some { cls := .none, data := .fields ps }
  | .met f x => h.get? a = some (PySem.W.methodObj (.ref f) (.ref x))
  | .ext φ => φ h ∧ (∃ o, h.get? a = some o) ∧ ∀ h1 h2 : Heap, φ h1 → (∀ o, h1.get? a = some o → h2.get? a = some o) → φ h2
/-- the abstract heap is held -/
def HOk (H : Hp) (h : Heap) : Prop := ∀ a o, H a = some o → ObjOk P w H h a o
end

section
variable {P : Program} {w : World} {H H' : Hp} {h h' : Heap} {a : Addr} {o : HO}
theorem ObjOk.lt (x : ObjOk P w H h a o) : a < h.objs.size := by
  cases o with
  | lst xs => obtain ⟨_, _, _, _, e⟩ := x; exact Heap.lt_size e
  | tup xs => obtain ⟨_, _, _, p⟩ := x; exact p.lt
  | dK kvs => obtain ⟨_, _, _, _, o, _, _, e, _⟩ := x; exact Heap.lt_size e
  | dT kvs => obtain ⟨_, _, _, _, o, _, _, e, _⟩ := x; exact Heap.lt_size e
  | set S n => obtain ⟨o, _, _, _, e, _⟩ := x; exact Heap.lt_size e
  | ins C dx fs => obtain ⟨_, _, _, e, _⟩ := x; exact Heap.lt_size e
  | own y => obtain ⟨_, e⟩ := x; exact Heap.lt_size e
  | xd fs => obtain ⟨_, ⟨_, _, _, e, _⟩, _⟩ := x; exact Heap.lt_size e
  | rng lo hi => obtain ⟨_, _, _, e⟩ := x; exact Heap.lt_size e
  | frz ob u => obtain ⟨e, _⟩ := x; exact Heap.lt_size e
  | tbl ps => exact Heap.lt_size (show h.get? a = some _ from x)
  | met f y => exact Heap.lt_size (show h.get? a = some _ from x)
  | ext φ => obtain ⟨_, ⟨_, e⟩, _⟩ := x; exact Heap.lt_size e
theorem Paired.mapP {α β : Type} {F G : α → β → Prop} : ∀ {l₁ : List α} {l₂ : List β}, Paired F l₁ l₂ → (∀ a b, F a b → G a b) → Paired G l₁ l₂
  | _, _, .nil, _ => .nil
  | _, _, .cons r t, f => .cons (f _ _ r) (Paired.mapP t f)
/-- what an object's description leans on: its own object, its own dict, the tuples -/
theorem ObjOk.stay (x : ObjOk P w H h a o) (k : ∀ b u, (b = a ∨ H b = some (.own a)) → h.get? b = some u → h'.get? b = some u)
    (ho : ∀ b, H b = some (.own a) → H' b = some (.own a)) (ht : ∀ b xs, H b = some (.tup xs) → H' b = some (.tup xs)) : ObjOk P w H' h' a o := by
  induction o with
  | lst xs => obtain ⟨z, its, n, r, e⟩ := x; exact ⟨z, its, n, r, k _ _ (.inl rfl) e⟩
  | tup xs => obtain ⟨z, its, r, ob, e, c⟩ := x; exact ⟨z, its, r, ob, k _ _ (.inl rfl) e, c⟩
  | dK kvs => obtain ⟨z, y, vs, r, ob, es, ep, e, c⟩ := x; exact ⟨z, y, vs, r, ob, es, ep, k _ _ (.inl rfl) e, c⟩
  | dT kvs =>
    obtain ⟨z, y, xs, r, ob, es, ep, e, c⟩ := x
    exact ⟨z, y, xs, Paired.mapP r fun p q z => ⟨z.1, ht _ _ z.2.1, z.2.2⟩, ob, es, ep, k _ _ (.inl rfl) e, c⟩
  | set S n => obtain ⟨ob, es, ep, t, e, c⟩ := x; exact ⟨ob, es, ep, t, k _ _ (.inl rfl) e, c⟩
  | ins C dx fs =>
    obtain ⟨d, z, ne, e, mA, ⟨od, es, ep, e2, c⟩, r⟩ := x
    exact ⟨ho _ d, z, ne, k _ _ (.inl rfl) e, mA, ⟨od, es, ep, k _ _ (.inr d) e2, c⟩, r⟩
  | own y => obtain ⟨ob, e⟩ := x; exact ⟨ob, k _ _ (.inl rfl) e⟩
  | xd fs => obtain ⟨mA, ⟨od, es, ep, e, c⟩, r⟩ := x; exact ⟨mA, ⟨od, es, ep, k _ _ (.inl rfl) e, c⟩, r⟩
  | rng lo hi => obtain ⟨t, u, v, e⟩ := x; exact ⟨t, u, v, k _ _ (.inl rfl) e⟩
  | frz ob u ih => obtain ⟨e, q⟩ := x; exact ⟨k _ _ (.inl rfl) e, ih q⟩
  | tbl ps =>
    have e : h.get? a = some { cls := .none, data := .fields ps } := x
    show h'.get? a = some { cls := .none, data := .fields ps }
    exact k a _ (.inl rfl) e
  | met f y =>
    have e : h.get? a = some (PySem.W.methodObj (.ref f) (.ref y)) := x
    show h'.get? a = some (PySem.W.methodObj (.ref f) (.ref y))
    exact k a _ (.inl rfl) e
  | ext φ => obtain ⟨p, ⟨o, e⟩, st⟩ := x; exact ⟨st _ _ p fun o q => k _ _ (.inl rfl) q, ⟨o, k _ _ (.inl rfl) e⟩, st⟩
theorem HOk.lt (x : HOk P w H h) (e : H a = some o) : a < h.objs.size := (x a o e).lt
theorem HOk.fresh (x : HOk P w H h) (e : h.objs.size ≤ a) : H a = none := by
  cases q : H a with
  | none => rfl
  | some u => exact absurd (Nat.lt_of_lt_of_le (x.lt q) e) (Nat.lt_irrefl _)
/-- every object of the heap is kept -/
theorem HOk.kept (x : HOk P w H h) (k : ∀ b u, h.get? b = some u → h'.get? b = some u) : HOk P w H h' := fun a o e =>
  (x a o e).stay (fun b u _ q => k b u q) (fun _ q => q) fun _ _ q => q
/-- a new object is laid and tracked -/
theorem HOk.laid (x : HOk P w H h) (k : ∀ b u, h.get? b = some u → h'.get? b = some u) (hp : h.objs.size ≤ a) (new : ObjOk P w (upd H a o) h' a o) : HOk P w (upd H a o) h' := fun b u e => by
  have hn := x.fresh hp
  by_cases hb : b = a
  · subst hb; rw [upd_same] at e; cases e; exact new
  · rw [upd_ne hb] at e
    exact (x b u e).stay (fun c v _ q => k c v q) (fun c q => by rw [upd_ne (ne_of_none q hn)]; exact q) fun c xs q => by rw [upd_ne (ne_of_none q hn)]; exact q
end

/-- what may be read as u: it is u, or a known u -/
def Rd (H : Hp) (a : Addr) (u : HO) : Prop := H a = some u ∨ ∃ o, H a = some (.frz o u)
theorem Rd.of {H : Hp} {a : Addr} {u : HO} (h : H a = some u) : Rd H a u := .inl h
theorem Rd.ok {P : Program} {w : World} {H : Hp} {h : Heap} {a : Addr} {u : HO} (r : Rd H a u) (x : HOk P w H h) : ObjOk P w H h a u := by
  rcases r with r | ⟨o, r⟩
  · exact x a u r
  · obtain ⟨_, q⟩ := x a _ r
    exact q
/-- what may be written -/
def Mut : Option HO → Prop
  | some (.lst _) => True
  | some (.dK _) => True
  | some (.dT _) => True
  | some (.set _ _) => True
  | some (.ins _ _ _) => True
  | some (.ext _) => True
  | _ => False
section
variable {P : Program} {w : World} {H : Hp} {h h' : Heap} {x e : Addr} {o' : HO}
/-- the object at e is changed: x itself, or the dict of the instance x -/
theorem HOk.write (ok : HOk P w H h) (mu : Mut (H x)) (he : e = x ∨ H e = some (.own x)) (k : ∀ b u, b ≠ e → h.get? b = some u → h'.get? b = some u) (heo : ∃ u, h'.get? e = some u)
    (new : ObjOk P w (upd H x o') h' x o') : HOk P w (upd H x o') h' := fun b u q => by
  have nown : ∀ c y, H c = some (.own y) → c ≠ x := fun c y r z => by subst z; rw [r] at mu; exact mu
  have ntup : ∀ c xs, H c = some (.tup xs) → c ≠ x := fun c xs r z => by subst z; rw [r] at mu; exact mu
  by_cases hb : b = x
  · subst hb; rw [upd_same] at q; cases q; exact new
  · rw [upd_ne hb] at q
    by_cases hbe : b = e
    · have q' : H b = some (.own x) := by
        rcases he with z | z
        · exact absurd (hbe.trans z) hb
        · rw [hbe]; exact z
      rw [q] at q'; cases q'
      obtain ⟨v, hv⟩ := heo
      exact ⟨v, by rw [hbe]; exact hv⟩
    · refine (ok b u q).stay (fun c v hc r => k c v ?_ r) (fun c r => by rw [upd_ne (nown c b r)]; exact r) fun c xs r => by rw [upd_ne (ntup c xs r)]; exact r
      rcases hc with rfl | hc
      · exact hbe
      · rintro rfl
        rcases he with z | z
        · exact nown c b hc z
        · rw [hc] at z; cases z; exact hb rfl
end

/-! ### kept unless tracked; of the frames at fs (the callers') the slots may change (an exception that passes writes there); of the records at ex (iterators) nothing is said -/
structure Un (fs ex : List Addr) (H H' : Hp) (h h' : Heap) : Prop where
  keep : ∀ b o, h.get? b = some o → H b = none → b ∉ fs → b ∉ ex → h'.get? b = some o
  slot : ∀ b o, h.get? b = some o → H b = none → b ∈ fs → b ∉ ex → ∃ sl, h'.get? b = some { o with slots := sl }
  free : ∀ b o, h.get? b = some o → H b = none → b ∉ ex → H' b = none
  there : ∀ b o, h.get? b = some o → b ∉ ex → ∃ o', h'.get? b = some o'
  tups : ∀ b xs, H b = some (.tup xs) → H' b = some (.tup xs)
  frzs : ∀ b o u, H b = some (.frz o u) → H' b = some (.frz o u)
  tbls : ∀ b ps, H b = some (.tbl ps) → ∃ more, H' b = some (.tbl (ps ++ more))
section
variable {fs fs' ex ex' : List Addr} {H H1 H2 : Hp} {h h1 h2 h' : Heap} {a x e : Addr} {o : HO}
theorem Un.any (u : Un fs ex H H1 h h1) {b : Addr} {ob : Obj} (q : h.get? b = some ob) (n : H b = none) (hx : b ∉ ex) : ∃ sl, h1.get? b = some { ob with slots := sl } := by
  by_cases hb : b ∈ fs
  · exact u.slot b ob q n hb hx
  · exact ⟨ob.slots, u.keep b ob q n hb hx⟩
theorem Un.trans (a : Un fs ex H H1 h h1) (b : Un fs ex H1 H2 h1 h2) : Un fs ex H H2 h h2 where
  keep := fun c ob q n hc hx => b.keep c ob (a.keep c ob q n hc hx) (a.free c ob q n hx) hc hx
  slot := fun c ob q n hc hx => by
    obtain ⟨sl, e1⟩ := a.slot c ob q n hc hx
    obtain ⟨sl', e2⟩ := b.slot c _ e1 (a.free c ob q n hx) hc hx
    exact ⟨sl', e2⟩
  free := fun c ob q n hx => by
    obtain ⟨o', e1⟩ := a.there c ob q hx
    exact b.free c o' e1 (a.free c ob q n hx) hx
  there := fun c ob q hx => by
    obtain ⟨o', e1⟩ := a.there c ob q hx
    exact b.there c o' e1 hx
  tups := fun c xs q => b.tups c xs (a.tups c xs q)
  frzs := fun c ob xs q => b.frzs c ob xs (a.frzs c ob xs q)
  tbls := fun c ps q => by
    obtain ⟨m1, e1⟩ := a.tbls c ps q
    obtain ⟨m2, e2⟩ := b.tbls c _ e1
    exact ⟨m1 ++ m2, by rw [e2, Array.append_assoc]⟩
theorem Un.kept (k : ∀ b u, h.get? b = some u → h'.get? b = some u) : Un fs ex H H h h' :=
  ⟨fun b ob q _ _ _ => k b ob q, fun b ob q _ _ _ => ⟨ob.slots, k b ob q⟩, fun _ _ _ n _ => n, fun b ob q _ => ⟨ob, k b ob q⟩, fun _ _ q => q, fun _ _ _ q => q, fun _ ps q => ⟨#[], by rw [q]; simp⟩⟩
theorem Un.refl : Un fs ex H H h h := Un.kept fun _ _ q => q
theorem Un.laid (k : ∀ b u, h.get? b = some u → h'.get? b = some u) (hp : h.objs.size ≤ a) (hn : H a = none) : Un fs ex H (upd H a o) h h' where
  keep := fun b u q _ _ _ => k b u q
  slot := fun b u q _ _ _ => ⟨u.slots, k b u q⟩
  free := fun b u q n _ => by rw [upd_ne (Nat.ne_of_lt (Nat.lt_of_lt_of_le (Heap.lt_size q) hp))]; exact n
  there := fun b u q _ => ⟨u, k b u q⟩
  tups := fun b xs q => by rw [upd_ne (ne_of_none q hn)]; exact q
  frzs := fun b u xs q => by rw [upd_ne (ne_of_none q hn)]; exact q
  tbls := fun b ps q => ⟨#[], by rw [upd_ne (ne_of_none q hn), q]; simp⟩
theorem Un.write (mu : Mut (H x)) (he : e = x ∨ H e = some (.own x)) (k : ∀ b u, b ≠ e → h.get? b = some u → h'.get? b = some u) (heo : ∃ u, h'.get? e = some u) : Un fs ex H (upd H x o) h h' := by
  have hx : ∀ b, H b = none → b ≠ x := fun b n z => by subst z; rw [n] at mu; exact mu
  have hb : ∀ b, H b = none → b ≠ e := fun b n z => by
    subst z
    rcases he with r | r
    · exact hx b n r
    · rw [n] at r; cases r
  have hm : ∀ b u, H b = some u → ¬ Mut (some u) → b ≠ x := fun b u q nm z => by subst z; rw [q] at mu; exact nm mu
  refine ⟨fun b u q n _ _ => k b u (hb b n) q, fun b u q n _ _ => ⟨u.slots, k b u (hb b n) q⟩, fun b u q n _ => by rw [upd_ne (hx b n)]; exact n, fun b u q _ => ?_,
    fun b xs q => by rw [upd_ne (hm b _ q fun z => z)]; exact q, fun b u xs q => by rw [upd_ne (hm b _ q fun z => z)]; exact q, fun b ps q => ⟨#[], by rw [upd_ne (hm b _ q fun z => z), q]; simp⟩⟩
  by_cases hbe : b = e
  · subst hbe; exact heo
  · exact ⟨u, k b u hbe q⟩
theorem Un.mono (u : Un fs ex H H1 h h1) (hs : ∀ b ∈ fs, b ∈ fs') (hx : ∀ b ∈ ex, b ∈ ex') : Un fs' ex' H H1 h h1 :=
  ⟨fun b ob q n hb he => u.keep b ob q n (fun z => hb (hs b z)) fun z => he (hx b z), fun _ _ q n _ he => u.any q n fun z => he (hx _ z), fun b ob q n he => u.free b ob q n fun z => he (hx b z), fun b ob q he => u.there b ob q fun z => he (hx b z), u.tups, u.frzs, u.tbls⟩
end

/-! ### the heap without what is tracked -/
def trk (h : Heap) (H : Hp) : List Addr := (List.range h.objs.size).filter fun a => (H a).isSome
def hidT (h : Heap) (H : Hp) : Heap := PySem.W.hideAll h (trk h H)
theorem hidT_size (h : Heap) (H : Hp) : (hidT h H).objs.size = h.objs.size := PySem.W.hideAll_size _ _
theorem hidT_get {h : Heap} {H : Hp} {b : Addr} {o : Obj} (e : h.get? b = some o) (n : H b = none) : (hidT h H).get? b = some o :=
  PySem.W.hideAll_get _ e fun hm => by
    have q : (H b).isSome = true := (List.mem_filter.mp hm).2
    rw [n] at q; simp at q
theorem of_hidT {h : Heap} {H : Hp} {b : Addr} {o : Obj} (e : (hidT h H).get? b = some o) : h.get? b = some o ∧ H b = none := by
  have e' : h.get? b = some o := PySem.W.of_hideAll (trk h H) e
  refine ⟨e', ?_⟩
  cases q : H b with
  | none => rfl
  | some x =>
    have hm : b ∈ trk h H := List.mem_filter.mpr ⟨List.mem_range.mpr (Heap.lt_size e'), by simp [q]⟩
    have z : (hidT h H).get? b = none := PySem.W.hideAll_none (trk h H) hm
    rw [z] at e; cases e

/-! ### OpenK's ledger, filled with every new object but one -/
def allNews (g h : Heap) (L : Addr) : List (Addr × Obj) := (List.range h.objs.size).filterMap fun a => if a = L ∨ (g.get? a).isSome = true then none else (h.get? a).map fun o => (a, o)
def rest (g h : Heap) (L d : Addr) : List (Addr × Obj) := (allNews g h L).filter fun p => decide (p.1 ≠ d)
end L2

namespace L2
open PySem PySem.Spec PyProof.Rows

/-- the module's facts, over the base: the heap at the law's entry without what is tracked there -/
structure Mod (K : PySem.W.Frag) (mg : Str → Option Value) (base : Heap) : Prop where
  kin : K.In base
  glob : base.Ns mainGlobals mg
  blt : ∃ mb, base.Ns builtinsNs mb ∧ ∀ x : Str, x ≠ "__name__" → mb x = bootBuiltins x
  nolimit : base.NoLimit

/-- the context: a def's body (or a comprehension's block) running. base: fixed through the whole law; s₀, H₀: the entry; outer: the frames whose slots others may change (a def's callers); stack: all frames that run;
   ex: iterators that were made ahead of the entry and are walked here (a comprehension's); fn: the names whose cells were made at the entry (a def: all; a comprehension's block: its own); calm: not within an except suite; pn: pins that every state bears; xe: what is wanted of an exception that leaves the code -/
structure Cx where
  prog : Program
  w : World
  K : PySem.W.Frag
  mg : Str → Option Value
  base : Heap
  A : Around
  N : List Str
  s₀ : Shared
  H₀ : Hp
  env : Env
  outer : List Env
  stack : List Env
  ex : List Addr
  fn : Str → Bool
  calm : Bool
  pn : List (Addr × Obj)
  xe : Value → Shared → Prop
/-- the callers' frames -/
def frs (l : List Env) : List Addr := l.filterMap (·.frame)
abbrev Cx.fs (X : Cx) : List Addr := frs X.outer

def Vis (sc : Scope) (x : Str) : Prop := sc.names.lookup x = some .local ∨ sc.names.lookup x = some .cell ∨ sc.names.lookup x = some .free
def Loc (sc : Scope) (x : Str) : Prop := sc.names.lookup x = some .local ∨ sc.names.lookup x = some .cell
def Look (env : Env) (h : Heap) (m : Str → Option Value) (x : Str) (u : Value) : Prop :=
  (env.kindOf x = some .local ∧ m x = some u) ∨ ((env.kindOf x = some .cell ∨ env.kindOf x = some .free) ∧ ∃ c, env.cells.lookup x = some c ∧ h.IsCell c (some u))

structure Cx.Ok (X : Cx) : Prop where
  mod : Mod X.K X.mg X.base
  kind : X.env.scope.kind = .function
  glob : X.env.globals = mainGlobals
  blt : X.env.builtins = builtinsNs
  above : X.s₀.heap.objs.size ≤ X.env.locals
  inj : ∀ x y c, X.env.cells.lookup x = some c → X.env.cells.lookup y = some c → x = y
  has : ∀ x, (X.env.kindOf x = some .cell ∨ X.env.kindOf x = some .free) → ∃ c, X.env.cells.lookup x = some c
  cab : ∀ x c, X.fn x = true → X.env.cells.lookup x = some c → X.s₀.heap.objs.size ≤ c
  hd : X.calm = true → X.A.handled = none
  frames : X.A.frames = some X.stack
  stk : X.stack = X.outer ∨ (X.stack = X.env :: X.outer ∧ X.env.frame = some X.env.locals)
  exf : ∀ b ∈ X.ex, b ≠ X.env.locals ∧ ∀ x c, X.env.cells.lookup x = some c → c ≠ b
  bs : ∀ b o, X.base.get? b = some o → X.s₀.heap.get? b = some o ∧ X.H₀ b = none
  bsz : X.base.objs.size ≤ X.s₀.heap.objs.size
  noex : ∀ b o, X.base.get? b = some o → b ∉ X.ex
  exfs : ∀ b ∈ X.ex, b ∉ X.fs
  funs : X.s₀.heap.FunFrames X.base X.outer
  frf : ∀ b ∈ X.fs, X.H₀ b = none

structure Inv (X : Cx) (pins : List (Addr × Obj)) (σ : List (Option V)) (H : Hp) (s : Shared) : Prop where
  ok : X.Ok
  os : s.os = X.s₀.os
  bare : AllBare s.gens
  base : Un X.fs X.ex X.H₀ H X.s₀.heap s.heap
  loc : ∃ m, s.heap.Ns X.env.locals m ∧ ∀ (i : Nat) (x : Str) (v : V), X.N[i]? = some x → σ[i]? = some (some v) → Vis X.env.scope x → ∃ u, RelV v u ∧ Look X.env s.heap m x u
  cell : ∀ x c, X.env.cells.lookup x = some c → ∃ v, s.heap.IsCell c v
  free : H X.env.locals = none
  freeC : ∀ x c, X.env.cells.lookup x = some c → H c = none
  pin : ∀ p ∈ X.pn ++ pins, s.heap.get? p.1 = some p.2 ∧ H p.1 = none ∧ p.1 ≠ X.env.locals ∧ p.1 ∉ X.fs ∧ ∀ v, p.2.data ≠ .cell v
  hok : HOk X.prog X.w H s.heap
  len : σ.length = X.N.length

section
variable {X : Cx} {pins : List (Addr × Obj)} {σ : List (Option V)} {H H' : Hp} {s : Shared} {h' : Heap}

theorem Cx.Ok.nofr (ok : X.Ok) {b : Addr} {o : Obj} (e : X.base.get? b = some o) : b ∉ X.fs := fun hb => by
  have := (ok.funs.mem hb).1
  rw [e] at this; cases this
theorem Inv.bs (I : Inv X pins σ H s) : ∀ b o, X.base.get? b = some o → s.heap.get? b = some o ∧ H b = none := fun b o e =>
  ⟨I.base.keep b o (I.ok.bs b o e).1 (I.ok.bs b o e).2 (I.ok.nofr e) (I.ok.noex b o e), I.base.free b o (I.ok.bs b o e).1 (I.ok.bs b o e).2 (I.ok.noex b o e)⟩
theorem Inv.bk (I : Inv X pins σ H s) : ∀ b o, X.base.get? b = some o → s.heap.get? b = some o := fun b o e => (I.bs b o e).1
theorem Inv.mod (I : Inv X pins σ H s) : Mod X.K X.mg X.base := I.ok.mod
theorem Inv.kIn (I : Inv X pins σ H s) : X.K.In s.heap := I.ok.mod.kin.keeps I.bk
theorem Inv.nolimit (I : Inv X pins σ H s) : s.heap.NoLimit := I.ok.mod.nolimit.keeps I.bk
/-- the frame over the base: for OpenK's rules (K.In X.base is I.mod.kin) -/
theorem Inv.fr (I : Inv X pins σ H s) : ∃ m, Fr X.base X.env.locals s.heap m :=
  let ⟨m, hn, _⟩ := I.loc
  ⟨m, hn, I.bk, Nat.le_trans I.ok.bsz I.ok.above⟩
theorem Inv.lt (I : Inv X pins σ H s) : X.env.locals < s.heap.objs.size := let ⟨_, hn, _⟩ := I.loc; hn.lt
theorem Inv.sz (I : Inv X pins σ H s) : X.s₀.heap.objs.size ≤ s.heap.objs.size := Nat.le_trans I.ok.above (Nat.le_of_lt I.lt)
theorem Inv.nofs (I : Inv X pins σ H s) {a : Addr} (h : s.heap.objs.size ≤ a) : a ∉ X.fs := fun hb => by
  obtain ⟨_, o, ho, _⟩ := I.ok.funs.mem hb
  exact absurd (Nat.lt_of_lt_of_le (Heap.lt_size ho) (Nat.le_trans I.sz h)) (Nat.lt_irrefl _)
theorem Inv.cne (I : Inv X pins σ H s) : ∀ x c, X.env.cells.lookup x = some c → c ≠ X.env.locals := fun x c e z => by
  obtain ⟨v, o, ho, hd⟩ := I.cell x c e
  obtain ⟨m, ⟨o', es, ep, ho', hd', _⟩, _⟩ := I.loc
  rw [z, ho'] at ho; cases ho; rw [hd'] at hd; cases hd
theorem Inv.funs (I : Inv X pins σ H s) : s.heap.FunFrames X.base X.outer := by
  have all : ∀ (l : List Env), (∀ b ∈ frs l, b ∈ X.fs) → X.s₀.heap.FunFrames X.base l → s.heap.FunFrames X.base l := by
    intro l
    induction l with
    | nil => intro _ _; trivial
    | cons env r ih =>
      intro hs hl
      obtain ⟨hk, ⟨L, o, hf, hn, ho, hd⟩, hr⟩ := hl
      have hL : L ∈ X.fs := hs L (by unfold frs; rw [List.filterMap_cons, hf]; exact List.mem_cons_self)
      obtain ⟨sl, e⟩ := I.base.slot L o ho (I.ok.frf L hL) hL fun z => I.ok.exfs L z hL
      exact ⟨hk, ⟨L, _, hf, hn, e, hd⟩, ih (fun b hb => hs b (by unfold frs; rw [List.filterMap_cons, hf]; exact List.mem_cons_of_mem _ hb)) hr⟩
  exact all X.outer (fun _ hb => hb) I.ok.funs

/-- the frames that run, for a call -/
theorem Inv.stack (I : Inv X pins σ H s) : s.heap.FunFrames X.base X.stack := by
  rcases I.ok.stk with e | ⟨e, hf⟩
  · rw [e]; exact I.funs
  · rw [e]
    obtain ⟨m, hn, _⟩ := I.loc
    refine .cons (by rw [I.ok.kind]; decide) hf hn ?_ I.funs
    exact Heap.get?_none_of_le (Nat.le_trans I.ok.bsz I.ok.above)
theorem Inv.stkSub (I : Inv X pins σ H s) : ∀ b ∈ frs X.stack, b ∈ X.env.locals :: X.fs := fun b hb => by
  rcases I.ok.stk with e | ⟨e, hf⟩
  · rw [e] at hb; exact List.mem_cons_of_mem _ hb
  · rw [e] at hb
    unfold frs at hb
    rw [List.filterMap_cons, hf] at hb
    exact hb
theorem Inv.stkFree (I : Inv X pins σ H s) : ∀ b ∈ frs X.stack, H b = none := fun b hb => by
  rcases List.mem_cons.mp (I.stkSub b hb) with e | hb
  · rw [e]; exact I.free
  · obtain ⟨_, o, ho, _⟩ := I.ok.funs.mem hb
    exact I.base.free b o ho (I.ok.frf b hb) fun z => I.ok.exfs b z hb

/-- THE STEP: the untracked objects but the frame and the records at ch are kept (the callers' frames up to slots), the frame's map is kept, the new abstract heap is held -/
theorem Inv.step {g' : Array GenState} {t' : Nat} {d' : Drawn} {ch : List Addr} (I : Inv X pins σ H s)
    (hch : ∀ b ∈ ch, (b ∈ X.ex ∨ X.s₀.heap.objs.size ≤ b) ∧ b ≠ X.env.locals ∧ (∀ x c, X.env.cells.lookup x = some c → c ≠ b) ∧ ∀ p ∈ X.pn ++ pins, p.1 ≠ b)
    (keep : ∀ b o, b ≠ X.env.locals → b ∉ X.fs → b ∉ ch → s.heap.get? b = some o → H b = none → h'.get? b = some o)
    (slot : ∀ b o, b ≠ X.env.locals → b ∈ X.fs → b ∉ ch → s.heap.get? b = some o → H b = none → ∃ sl, h'.get? b = some { o with slots := sl }) (free : ∀ b o, b ∉ ch → s.heap.get? b = some o → H b = none → H' b = none)
    (there : ∀ b o, b ∉ ch → s.heap.get? b = some o → ∃ o', h'.get? b = some o')
    (tups : ∀ b xs, H b = some (.tup xs) → H' b = some (.tup xs)) (frzs : ∀ b o u, H b = some (.frz o u) → H' b = some (.frz o u)) (tbls : ∀ b ps, H b = some (.tbl ps) → ∃ more, H' b = some (.tbl (ps ++ more)))
    (ns : ∀ m, s.heap.Ns X.env.locals m → h'.Ns X.env.locals m) (hok : HOk X.prog X.w H' h') (hg : AllBare g') :
    Inv X pins σ H' { s with heap := h', gens := g', drawn := d', toks := t' } := by
  have neL : ∀ b o, X.s₀.heap.get? b = some o → b ≠ X.env.locals := fun b o e => Nat.ne_of_lt (Nat.lt_of_lt_of_le (Heap.lt_size e) I.ok.above)
  have neC : ∀ b o, X.s₀.heap.get? b = some o → b ∉ X.ex → b ∉ ch := fun b o e hx hb => by
    rcases (hch b hb).1 with z | z
    · exact hx z
    · exact absurd (Nat.lt_of_lt_of_le (Heap.lt_size e) z) (Nat.lt_irrefl _)
  have cellK : ∀ x c, X.env.cells.lookup x = some c → ∀ v, s.heap.IsCell c v → h'.IsCell c v := fun x c e v ⟨o, ho, hd⟩ => by
    have nch : c ∉ ch := fun z => (hch c z).2.2.1 x c e rfl
    by_cases hc : c ∈ X.fs
    · obtain ⟨sl, q⟩ := slot c o (I.cne x c e) hc nch ho (I.freeC x c e)
      exact ⟨_, q, hd⟩
    · exact ⟨o, keep c o (I.cne x c e) hc nch ho (I.freeC x c e), hd⟩
  refine ⟨I.ok, I.os, hg, ⟨fun b o e n hb hx => ?_, fun b o e n hb hx => ?_, fun b o e n hx => ?_, fun b o e hx => ?_, fun b xs e => tups b xs (I.base.tups b xs e), fun b o xs e => frzs b o xs (I.base.frzs b o xs e), fun b ps e => ?_⟩, ?_, fun x c e => ?_, ?_, fun x c e => ?_, fun p hp => ?_, hok, I.len⟩
  · exact keep b o (neL b o e) hb (neC b o e hx) (I.base.keep b o e n hb hx) (I.base.free b o e n hx)
  · obtain ⟨sl, e1⟩ := I.base.slot b o e n hb hx
    obtain ⟨sl', e2⟩ := slot b _ (neL b o e) hb (neC b o e hx) e1 (I.base.free b o e n hx)
    exact ⟨sl', e2⟩
  · obtain ⟨o', e1⟩ := I.base.there b o e hx
    exact free b o' (neC b o e hx) e1 (I.base.free b o e n hx)
  · obtain ⟨o', e1⟩ := I.base.there b o e hx
    exact there b o' (neC b o e hx) e1
  · obtain ⟨m1, e1⟩ := I.base.tbls b ps e
    obtain ⟨m2, e2⟩ := tbls b _ e1
    exact ⟨m1 ++ m2, by rw [e2, Array.append_assoc]⟩
  · obtain ⟨m, hn, hl⟩ := I.loc
    refine ⟨m, ns m hn, fun i x v e1 e2 e3 => ?_⟩
    obtain ⟨u, r, l⟩ := hl i x v e1 e2 e3
    refine ⟨u, r, ?_⟩
    rcases l with l | ⟨k, c, e, z⟩
    · exact .inl l
    · exact .inr ⟨k, c, e, cellK x c e _ z⟩
  · obtain ⟨v, z⟩ := I.cell x c e
    exact ⟨v, cellK x c e v z⟩
  · obtain ⟨m, ⟨o, _, _, ho, _⟩, _⟩ := I.loc
    exact free _ o (fun z => (hch _ z).2.1 rfl) ho I.free
  · obtain ⟨v, o, ho, hd⟩ := I.cell x c e
    exact free c o (fun z => (hch c z).2.2.1 x c e rfl) ho (I.freeC x c e)
  · obtain ⟨e, n, ne, nf, d⟩ := I.pin p hp
    have nch : p.1 ∉ ch := fun z => (hch p.1 z).2.2.2 p hp rfl
    exact ⟨keep p.1 p.2 ne nf nch e n, free p.1 p.2 nch e n, ne, nf, d⟩
/-- .. where the frame's own object is kept too -/
theorem Inv.un {t' : Nat} (I : Inv X pins σ H s) (u : Un X.fs [] H H' s.heap h') (hok : HOk X.prog X.w H' h') : Inv X pins σ H' { s with heap := h', toks := t' } := by
  obtain ⟨m, ⟨o, es, ep, ho, r⟩, _⟩ := id I.loc
  obtain ⟨sl, hL⟩ := u.any ho I.free (by simp)
  exact I.step (g' := s.gens) (d' := s.drawn) (ch := []) (fun _ z => nomatch z) (fun b o _ hb _ e n => u.keep b o e n hb (by simp)) (fun b o _ hb _ e n => u.slot b o e n hb (by simp)) (fun b o _ e n => u.free b o e n (by simp)) (fun b o _ e => u.there b o e (by simp)) u.tups u.frzs u.tbls (fun m' hm => by
    obtain ⟨o', es', ep', ho', r'⟩ := hm
    rw [ho] at ho'; cases ho'
    exact ⟨_, es', ep', hL, r'⟩) hok I.bare
/-- behind a call (or a comprehension's block): the slots of this frame may have changed too, the records at ch may have turned -/
theorem Inv.call {g' : Array GenState} {t' : Nat} {d' : Drawn} {ch : List Addr} (I : Inv X pins σ H s) (u : Un (frs X.stack) ch H H' s.heap h') (hok : HOk X.prog X.w H' h') (hg : AllBare g')
    (hch : ∀ b ∈ ch, (b ∈ X.ex ∨ X.s₀.heap.objs.size ≤ b) ∧ b ≠ X.env.locals ∧ (∀ x c, X.env.cells.lookup x = some c → c ≠ b) ∧ ∀ p ∈ X.pn ++ pins, p.1 ≠ b) :
    Inv X pins σ H' { s with heap := h', gens := g', drawn := d', toks := t' } := by
  obtain ⟨m, ⟨o, es, ep, ho, r⟩, _⟩ := id I.loc
  obtain ⟨sl, hL⟩ := u.any ho I.free fun z => (hch _ z).2.1 rfl
  exact I.step (ch := ch) hch (fun b o hL hb hc e n => u.keep b o e n (fun z => (List.mem_cons.mp (I.stkSub b z)).elim hL hb) hc) (fun b o _ _ hc e n => u.any e n hc) (fun b o hc e n => u.free b o e n hc) (fun b o hc e => u.there b o e hc) u.tups u.frzs u.tbls (fun m' hm => by
    obtain ⟨o', es', ep', ho', r'⟩ := hm
    rw [ho] at ho'; cases ho'
    exact ⟨_, es', ep', hL, r'⟩) hok hg
/-- an untracked record of ours (an iterator) has turned -/
theorem Inv.turned {t' : Nat} {it : Addr} (I : Inv X pins σ H s) (k : ∀ b o, b ≠ it → s.heap.get? b = some o → h'.get? b = some o) (hn : H it = none) (hL : it ≠ X.env.locals)
    (h1 : it ∈ X.ex ∨ X.s₀.heap.objs.size ≤ it) (h2 : ∀ x c, X.env.cells.lookup x = some c → c ≠ it) (h3 : ∀ p ∈ X.pn ++ pins, p.1 ≠ it) : Inv X pins σ H { s with heap := h', toks := t' } := by
  have nit : ∀ b u, H b = some u → b ≠ it := fun b u e z => by rw [z, hn] at e; cases e
  refine I.step (g' := s.gens) (d' := s.drawn) (ch := [it]) (fun b hb => ?_) (fun b o _ _ hc e _ => k b o (fun z => hc (by simp [z])) e) (fun b o _ _ hc e _ => ⟨o.slots, k b o (fun z => hc (by simp [z])) e⟩) (fun _ _ _ _ n => n)
    (fun b o hc e => ⟨o, k b o (fun z => hc (by simp [z])) e⟩) (fun _ _ e => e) (fun _ _ _ e => e) (fun b ps e => ⟨#[], by rw [e]; simp⟩) (fun m hm => ?_) (fun b u e => ?_) I.bare
  · have e : b = it := by simpa using hb
    subst e
    exact ⟨h1, hL, h2, h3⟩
  · obtain ⟨o, es, ep, ho, r⟩ := hm
    exact ⟨o, es, ep, k _ o (Ne.symm hL) ho, r⟩
  · refine (I.hok b u e).stay (fun c v hc q => k c v ?_ q) (fun _ q => q) fun _ _ q => q
    rcases hc with z | z
    · rw [z]; exact nit b u e
    · exact nit c _ z
theorem Inv.tok (I : Inv X pins σ H s) (t : Nat) : Inv X pins σ H { s with toks := t } := I.un (h' := s.heap) (t' := t) Un.refl I.hok
/-- all objects kept -/
theorem Inv.kept {t' : Nat} (I : Inv X pins σ H s) (k : ∀ b u, s.heap.get? b = some u → h'.get? b = some u) : Inv X pins σ H { s with heap := h', toks := t' } := I.un (Un.kept k) (I.hok.kept k)
/-- a new object laid and tracked -/
theorem Inv.laid {a : Addr} {o : HO} {t' : Nat} (I : Inv X pins σ H s) (k : ∀ b u, s.heap.get? b = some u → h'.get? b = some u) (hp : s.heap.objs.size ≤ a) (new : ObjOk X.prog X.w (upd H a o) h' a o) :
    Inv X pins σ (upd H a o) { s with heap := h', toks := t' } := I.un (Un.laid k hp (I.hok.fresh hp)) (I.hok.laid k hp new)
/-- an object written -/
theorem Inv.write {x e : Addr} {o : HO} {t' : Nat} (I : Inv X pins σ H s) (mu : Mut (H x)) (he : e = x ∨ H e = some (.own x)) (k : ∀ b u, b ≠ e → s.heap.get? b = some u → h'.get? b = some u) (heo : ∃ u, h'.get? e = some u)
    (new : ObjOk X.prog X.w (upd H x o) h' x o) : Inv X pins σ (upd H x o) { s with heap := h', toks := t' } := I.un (Un.write mu he k heo) (I.hok.write mu he k heo new)
/-- forgetting slots, pins -/
theorem Inv.weak {σ' : List (Option V)} (I : Inv X pins σ H s) (hl : σ'.length = σ.length) (w : ∀ (i : Nat) v, σ'[i]? = some (some v) → σ[i]? = some (some v)) : Inv X pins σ' H s :=
  ⟨I.ok, I.os, I.bare, I.base, let ⟨m, hn, hl'⟩ := I.loc; ⟨m, hn, fun i x v e1 e2 e3 => hl' i x v e1 (w i v e2) e3⟩, I.cell, I.free, I.freeC, I.pin, I.hok, hl.trans I.len⟩
theorem Inv.pins_of {pins' : List (Addr × Obj)} (I : Inv X pins σ H s) (h : ∀ p ∈ pins', s.heap.get? p.1 = some p.2 ∧ H p.1 = none ∧ p.1 ≠ X.env.locals ∧ p.1 ∉ X.fs ∧ ∀ v, p.2.data ≠ .cell v) : Inv X pins' σ H s :=
  ⟨I.ok, I.os, I.bare, I.base, I.loc, I.cell, I.free, I.freeC, fun p hp => (List.mem_append.mp hp).elim (fun z => I.pin p (List.mem_append_left _ z)) (h p), I.hok, I.len⟩

theorem nodup_ix {N : List Str} (hN : N.Nodup) {i j : Nat} {x : Str} (a : N[i]? = some x) (b : N[j]? = some x) : i = j := by
  obtain ⟨h1, e1⟩ := List.getElem?_eq_some_iff.mp a
  obtain ⟨h2, e2⟩ := List.getElem?_eq_some_iff.mp b
  exact (List.getElem_inj hN).mp (e1.trans e2.symm)

/-- a name is stored; what changed -/
theorem store_ok2 {M : Model} {A : Around} {E : Value → Shared → Prop} {i : Nat} {x : Str} {v : V} {u : Value} {Q : Unit → Shared → Prop} (I : Inv X pins σ H s) (hN : X.N.Nodup) (hi : X.N[i]? = some x) (hx : Loc X.env.scope x) (r : RelV v u)
    (h : ∀ s', Inv X pins (σ.set i (some v)) H s' → (∃ a, Heap.SameBut a s.heap s'.heap ∧ (a = X.env.locals ∨ X.env.cells.lookup x = some a)) → Q () s') (hf : X.fn x = true ∨ X.env.scope.names.lookup x = some .local := by first | exact .inl rfl | exact .inr rfl | assumption) : wpAny M A (storeName X.env x u) Q E s := by
  obtain ⟨m, hn, hl⟩ := id I.loc
  have hcls : (X.env.scope.kind == .class || (X.env.scope.kind == .module && X.env.locals != X.env.globals)) = false := by rw [I.ok.kind]; rfl
  have hiσ : i < σ.length := by rw [I.len]; exact (List.getElem?_eq_some_iff.mp hi).1
  have cne := I.cne
  have tracked : ∀ {a : Addr} {h' : Heap}, (∃ o, s.heap.get? a = some o ∧ H a = none) → Heap.SameBut a s.heap h' → HOk X.prog X.w H h' := fun {a h'} ha hs b ob e => by
    obtain ⟨_, _, hfree⟩ := ha
    refine (I.hok b ob e).stay (fun c w' hc q => (hs.2 c ?_).trans q) (fun _ q => q) fun _ _ q => q
    rintro rfl
    rcases hc with rfl | hc
    · rw [hfree] at e; cases e
    · rw [hfree] at hc; cases hc
  rcases hx with hk | hk
  · refine wpAny_storeName_local hk hn (fun h' hn' hs => ?_) hcls
    obtain ⟨oL, _, _, hoL, _⟩ := id hn
    refine h _ ⟨I.ok, I.os, I.bare, ⟨fun b o e n hb hx => ?_, fun b o e n hb hx => ?_, I.base.free, fun b o e hx => ?_, I.base.tups, I.base.frzs, I.base.tbls⟩, ⟨_, hn', fun j y v' e1 e2 e3 => ?_⟩, fun y c e => ?_, I.free, I.freeC, fun p hp => ?_, tracked ⟨oL, hoL, I.free⟩ hs, by simpa using I.len⟩ ⟨_, hs, .inl rfl⟩
    · exact (hs.2 b (Nat.ne_of_lt (Nat.lt_of_lt_of_le (Heap.lt_size e) I.ok.above))).trans (I.base.keep b o e n hb hx)
    · obtain ⟨sl, e1⟩ := I.base.slot b o e n hb hx
      exact ⟨sl, (hs.2 b (Nat.ne_of_lt (Nat.lt_of_lt_of_le (Heap.lt_size e) I.ok.above))).trans e1⟩
    · obtain ⟨o', e1⟩ := I.base.there b o e hx
      exact ⟨o', (hs.2 b (Nat.ne_of_lt (Nat.lt_of_lt_of_le (Heap.lt_size e) I.ok.above))).trans e1⟩
    · by_cases hj : j = i
      · subst hj
        rw [hi] at e1; cases e1
        rw [List.getElem?_set_self hiσ] at e2
        cases e2
        exact ⟨u, r, .inl ⟨hk, by simp⟩⟩
      · rw [List.getElem?_set_ne (Ne.symm hj)] at e2
        obtain ⟨u', r', q⟩ := hl j y v' e1 e2 e3
        refine ⟨u', r', ?_⟩
        rcases q with ⟨k, e⟩ | ⟨k, c, e, z⟩
        · refine .inl ⟨k, ?_⟩
          have : y ≠ x := fun e => hj (nodup_ix hN e1 (e ▸ hi))
          simp [this, e]
        · exact .inr ⟨k, c, e, z.sameBut hs (cne y c e)⟩
    · obtain ⟨w', z⟩ := I.cell y c e
      exact ⟨w', z.sameBut hs (cne y c e)⟩
    · obtain ⟨e, n, ne, nf, d⟩ := I.pin p hp
      exact ⟨(hs.2 p.1 ne).trans e, n, ne, nf, d⟩
  · have hfn : X.fn x = true := by
      rcases hf with z | z
      · exact z
      · rw [z] at hk; cases hk
    obtain ⟨c, hc⟩ := I.ok.has x (.inl hk)
    obtain ⟨w', z⟩ := I.cell x c hc
    refine wpAny_storeName_cell I.ok.kind hk hc z (fun h' hc' hs => ?_)
    obtain ⟨oc, hoc, hocd⟩ := id z
    refine h { s with heap := h' } ⟨I.ok, I.os, I.bare, ⟨fun b o e n hb hx => ?_, fun b o e n hb hx => ?_, I.base.free, fun b o e hx => ?_, I.base.tups, I.base.frzs, I.base.tbls⟩, ⟨m, hn.sameBut hs (Ne.symm (cne x c hc)), fun j y v' e1 e2 e3 => ?_⟩, fun y c' e => ?_, I.free, I.freeC, fun p hp => ?_, tracked ⟨oc, hoc, I.freeC x c hc⟩ hs, by simpa using I.len⟩ ⟨c, hs, .inr hc⟩
    · exact (hs.2 b (Nat.ne_of_lt (Nat.lt_of_lt_of_le (Heap.lt_size e) (I.ok.cab x c hfn hc)))).trans (I.base.keep b o e n hb hx)
    · obtain ⟨sl, e1⟩ := I.base.slot b o e n hb hx
      exact ⟨sl, (hs.2 b (Nat.ne_of_lt (Nat.lt_of_lt_of_le (Heap.lt_size e) (I.ok.cab x c hfn hc)))).trans e1⟩
    · obtain ⟨o', e1⟩ := I.base.there b o e hx
      exact ⟨o', (hs.2 b (Nat.ne_of_lt (Nat.lt_of_lt_of_le (Heap.lt_size e) (I.ok.cab x c hfn hc)))).trans e1⟩
    · by_cases hj : j = i
      · subst hj
        rw [hi] at e1; cases e1
        rw [List.getElem?_set_self hiσ] at e2
        cases e2
        exact ⟨u, r, .inr ⟨.inl hk, c, hc, hc'⟩⟩
      · rw [List.getElem?_set_ne (Ne.symm hj)] at e2
        obtain ⟨u', r', q⟩ := hl j y v' e1 e2 e3
        refine ⟨u', r', ?_⟩
        rcases q with q | ⟨k, c', e, z'⟩
        · exact .inl q
        · refine .inr ⟨k, c', e, z'.sameBut hs ?_⟩
          rintro rfl
          exact hj (nodup_ix hN e1 (I.ok.inj _ _ _ e hc ▸ hi))
    · by_cases hcc : c' = c
      · subst hcc; exact ⟨_, hc'⟩
      · obtain ⟨w2, z2⟩ := I.cell y c' e
        exact ⟨w2, z2.sameBut hs hcc⟩
    · obtain ⟨e, n, ne, nf, d⟩ := I.pin p hp
      refine ⟨(hs.2 p.1 ?_).trans e, n, ne, nf, d⟩
      intro q
      rw [q, hoc] at e
      have q' : oc = p.2 := Option.some.inj e
      exact d w' (by rw [← q']; exact hocd)
theorem store_ok {M : Model} {A : Around} {E : Value → Shared → Prop} {i : Nat} {x : Str} {v : V} {u : Value} {Q : Unit → Shared → Prop} (I : Inv X pins σ H s) (hN : X.N.Nodup) (hi : X.N[i]? = some x) (hx : Loc X.env.scope x) (r : RelV v u)
    (h : ∀ s', Inv X pins (σ.set i (some v)) H s' → Q () s') (hf : X.fn x = true ∨ X.env.scope.names.lookup x = some .local := by first | exact .inl rfl | exact .inr rfl | assumption) : wpAny M A (storeName X.env x u) Q E s :=
  store_ok2 I hN hi hx r (fun s' I' _ => h s' I') hf
/-- behind a call or a block, the state as it is -/
theorem Inv.call' {s' : Shared} {ch : List Addr} (I : Inv X pins σ H s) (ho : s'.os = s.os) (u : Un (frs X.stack) ch H H' s.heap s'.heap) (hok : HOk X.prog X.w H' s'.heap) (hg : AllBare s'.gens)
    (hch : ∀ b ∈ ch, (b ∈ X.ex ∨ X.s₀.heap.objs.size ≤ b) ∧ b ≠ X.env.locals ∧ (∀ x c, X.env.cells.lookup x = some c → c ≠ b) ∧ ∀ p ∈ X.pn ++ pins, p.1 ≠ b) : Inv X pins σ H' s' := by
  obtain ⟨h', g', d', t', o'⟩ := s'
  have e : o' = s.os := ho
  subst e
  exact I.call (g' := g') (t' := t') (d' := d') u hok hg hch
end

/-! ### the judgements -/
/-- an exception: its class, its own dict's address (where it has one), the abstract heap behind it -/
abbrev XK := Value → Option Addr → Hp → Prop
abbrev St := List (Option V)
abbrev VK := V → Hp → Prop
/-- an expression's reading; a test's; an argument list's -/
abbrev TE := St → Hp → VK → Prop
abbrev TT := St → Hp → (Bool → Hp → Prop) → Prop
abbrev TA := St → Hp → (List V → Hp → Prop) → Prop
/-- what is wanted behind a statement -/
structure Ends where
  nx : St → Hp → Prop
  rt : VK
  bk : St → Hp → Prop := fun _ _ => False
  ct : St → Hp → Prop := fun _ _ => False
abbrev TS := Ends → St → Hp → Prop

def EP (X : Cx) (pins : List (Addr × Obj)) (σ : St) (Q : VK) (u : Value) (s' : Shared) : Prop := ∃ v H', Inv X pins σ H' s' ∧ RelV v u ∧ Q v H'
def TP (X : Cx) (pins : List (Addr × Obj)) (σ : St) (Q : Bool → Hp → Prop) (b : Bool) (s' : Shared) : Prop := ∃ H', Inv X pins σ H' s' ∧ Q b H'
def AP (X : Cx) (pins : List (Addr × Obj)) (σ : St) (Q : List V → Hp → Prop) (us : List Value) (s' : Shared) : Prop := ∃ vs H', Inv X pins σ H' s' ∧ Vals vs us ∧ Q vs H'
def SP (X : Cx) (pins : List (Addr × Obj)) (D : Ends) (f : Flow) (s' : Shared) : Prop :=
  match f with
  | .next => ∃ σ' H', Inv X pins σ' H' s' ∧ D.nx σ' H'
  | .brk => ∃ σ' H', Inv X pins σ' H' s' ∧ D.bk σ' H'
  | .cont => ∃ σ' H', Inv X pins σ' H' s' ∧ D.ct σ' H'
  | .ret u => ∃ v σ' H', Inv X pins σ' H' s' ∧ RelV v u ∧ D.rt v H'

def PE (X : Cx) (e : Expr) (t : TE) : Prop :=
  ∀ (pins : List (Addr × Obj)) (s : Shared) (σ : St) (H : Hp) (Q : VK), Inv X pins σ H s → t σ H Q → wpAny (model X.prog X.w) X.A (eval e X.env) (EP X pins σ Q) X.xe s
def PT (X : Cx) (e : Expr) (t : TT) : Prop :=
  ∀ (pins : List (Addr × Obj)) (s : Shared) (σ : St) (H : Hp) (Q : Bool → Hp → Prop), Inv X pins σ H s → t σ H Q → wpAny (model X.prog X.w) X.A (isTrue e X.env (eval e X.env)) (TP X pins σ Q) X.xe s
/-- a test whatever its 'whole' is (and, or) -/
def PW (X : Cx) (e : Expr) (t : TT) : Prop :=
  ∀ (whole : Sem Value) (pins : List (Addr × Obj)) (s : Shared) (σ : St) (H : Hp) (Q : Bool → Hp → Prop), Inv X pins σ H s → t σ H Q → wpAny (model X.prog X.w) X.A (isTrue e X.env whole) (TP X pins σ Q) X.xe s
theorem PW.pt {X : Cx} {e : Expr} {t : TT} (h : PW X e t) : PT X e t := h _
/-- an argument list (no star), from the left -/
def PA (X : Cx) (es : List Expr) (t : TA) : Prop :=
  ∀ (pos : Pos) (pins : List (Addr × Obj)) (s : Shared) (σ : St) (H : Hp) (Q : List V → Hp → Prop), Inv X pins σ H s → t σ H Q → wpAny (model X.prog X.w) X.A (spliced (backTo pos (starEach es X.env))) (AP X pins σ Q) X.xe s
def PS (X : Cx) (st : Stmt) (t : TS) : Prop :=
  ∀ (pins : List (Addr × Obj)) (s : Shared) (σ : St) (H : Hp) (D : Ends), Inv X pins σ H s → t D σ H → wpAny (model X.prog X.w) X.A (exec st X.env) (SP X pins D) X.xe s
def PSs (X : Cx) (st : List Stmt) (t : TS) : Prop :=
  ∀ (pins : List (Addr × Obj)) (s : Shared) (σ : St) (H : Hp) (D : Ends), Inv X pins σ H s → t D σ H → wpAny (model X.prog X.w) X.A (execs st X.env) (SP X pins D) X.xe s
/-- weaken the end -/
theorem thn {α : Type} {t : Sem α} {Q Q' : α → Shared → Prop} {M : Model} {A : Around} {E : Value → Shared → Prop} {s : Shared} (h : wpAny M A t Q E s) (hQ : ∀ a s, Q a s → Q' a s) : wpAny M A t Q' E s := wpAny_mono h hQ fun _ _ x => x
end L2

namespace L2
open PySem PySem.Spec PyProof.Rows
section
variable {X : Cx}

/-! ### names and constants -/
def tVar (i : Nat) : TE := fun σ H Q => ∃ v, σ[i]? = some (some v) ∧ Q v H
def tC (v : V) : TE := fun _ H Q => Q v H
theorem pe_var {i : Nat} {x : Str} {pos : Pos} (hN : X.N[i]? = some x) (hv : Vis X.env.scope x) (hd : (x == ("__debug__" : Str)) = false := by decide) (hcd : (x == ("__classdict__" : Str)) = false := by decide) : PE X (.Name x pos) (tVar i) := by
  intro pins s σ H Q I h
  obtain ⟨v, e, h⟩ := h
  obtain ⟨m, hn, hl⟩ := I.loc
  obtain ⟨u, r, l⟩ := hl i x v hN e hv
  have fin : EP X pins σ Q u s := ⟨v, H, I, r, h⟩
  rcases l with ⟨hk, hm⟩ | ⟨hk, c, hc, hcell⟩
  · exact wpAny_Name (wpAny_loadName_local I.ok.kind hk hn hm fin) hd
  · rcases hk with hk | hk
    · exact wpAny_Name (wpAny_loadName_cell I.ok.kind hk hc hcell fin) hd
    · exact wpAny_Name (wpAny_loadName_free I.ok.kind hk hc hcell fin hcd) hd
theorem pe_int {i j pos} : PE X (.Constant (.int i) j pos) (tC (.int i)) := fun _ _ _ H _ I h => wpAny_Constant_int ⟨.int i, H, I.tok _, ⟨_, rfl⟩, h⟩
theorem pe_bl {b j pos} : PE X (.Constant (.bool b) j pos) (tC (.bl b)) := fun _ _ _ H _ I h => Constant_bool ⟨.bl b, H, I, rfl, h⟩
theorem pe_non {j pos} : PE X (.Constant .none j pos) (tC .non) := fun _ _ _ H _ I h => Constant_none ⟨.non, H, I, rfl, h⟩
theorem pe_str {x j pos} : PE X (.Constant (.str x) j pos) (tC (.str x)) := fun _ _ _ H _ I h => Calls.Constant_str ⟨.str x, H, I.tok _, ⟨_, rfl⟩, h⟩

/-- a global name of the def -/
def Gl (X : Cx) (x : Str) : Prop := X.env.kindOf x = some .globalImplicit
theorem ld_glob {E : Value → Shared → Prop} {pins : List (Addr × Obj)} {s : Shared} {σ : St} {H : Hp} {x : Str} {u : Value} {pos : Pos} {Q : Value → Shared → Prop} (I : Inv X pins σ H s) (hg : Gl X x) (hm : X.mg x = some u) (h : Q u s)
    (hd : (x == ("__debug__" : Str)) = false := by decide) : wpAny (model X.prog X.w) X.A (eval (.Name x pos) X.env) Q E s :=
  Calls.Name_function_global I.ok.kind hg (Calls.loadGlobal_global (by rw [I.ok.glob]; exact I.mod.glob.keeps I.bk) hm h) hd
theorem ld_blt {E : Value → Shared → Prop} {pins : List (Addr × Obj)} {s : Shared} {σ : St} {H : Hp} {x : Str} {u : Value} {pos : Pos} {Q : Value → Shared → Prop} (I : Inv X pins σ H s) (hg : Gl X x) (hm : X.mg x = none) (hv : bootBuiltins x = some u) (h : Q u s)
    (hn : x ≠ "__name__" := by decide) (hd : (x == ("__debug__" : Str)) = false := by decide) : wpAny (model X.prog X.w) X.A (eval (.Name x pos) X.env) Q E s := by
  obtain ⟨mb, h1, h2⟩ := I.mod.blt
  exact Calls.Name_function_global I.ok.kind hg (Calls.loadGlobal_builtin (by rw [I.ok.glob]; exact I.mod.glob.keeps I.bk) hm (by rw [I.ok.blt]; exact h1.keeps I.bk) ((h2 x hn).trans hv) h) hd
/-- a module's constant, a class, a function, as a value -/
theorem pe_glob {x : Str} {v : V} {u : Value} {pos : Pos} (hg : Gl X x) (hm : X.mg x = some u) (r : RelV v u) (hd : (x == ("__debug__" : Str)) = false := by decide) : PE X (.Name x pos) (tC v) :=
  fun _ _ _ H _ I h => ld_glob I hg hm ⟨v, H, I, r, h⟩ hd
theorem pe_bltn {x : Str} {v : V} {u : Value} {pos : Pos} (hg : Gl X x) (hm : X.mg x = none) (hv : bootBuiltins x = some u) (r : RelV v u) (hn : x ≠ "__name__" := by decide) (hd : (x == ("__debug__" : Str)) = false := by decide) : PE X (.Name x pos) (tC v) :=
  fun _ _ _ H _ I h => ld_blt I hg hm hv ⟨v, H, I, r, h⟩ hn hd

/-! ### arithmetic -/
/-- two ints -/
def t2I (ta tb : TE) (k : Int → Int → Hp → Prop) : St → Hp → Prop := fun σ H => ta σ H fun x H1 => tb σ H1 fun y H2 => ∃ i j, x = .int i ∧ y = .int j ∧ k i j H2
variable {a b : Expr} {ta tb : TE} {pos : Pos}
def tCmp (p : Int → Int → Bool) (ta tb : TE) : TE := fun σ H Q => t2I ta tb (fun i j H2 => Q (.bl (p i j)) H2) σ H
abbrev tGt : TE → TE → TE := tCmp fun i j => decide (j < i)
/-! ### and, or, not -/
variable {tA tB' : TT} {rest : List Expr}
def tOr (t u : TT) : TT := fun σ H Q => t σ H fun c H1 => if c = true then Q true H1 else u σ H1 Q
def tNot (t : TT) : TT := fun σ H Q => t σ H fun c H1 => Q (!c) H1
theorem pw_or1 (ha : PT X a tA) : PW X (.BoolOp .Or [a] pos) tA := by
  intro wh pins s σ H Q I h
  refine isTrue_or (thn (ha pins s σ H Q I h) fun c s1 e => ?_)
  cases c with
  | false => exact isTrue_or_nil e
  | true => exact e
theorem pw_or (ha : PT X a tA) (hb : PW X (.BoolOp .Or (b :: rest) pos) tB') : PW X (.BoolOp .Or (a :: b :: rest) pos) (tOr tA tB') := by
  intro wh pins s σ H Q I h
  refine isTrue_or (thn (ha pins s σ H _ I h) fun c s1 ⟨H1, I1, q1⟩ => ?_)
  cases c with
  | true => exact ⟨H1, I1, q1⟩
  | false => exact hb wh pins s1 σ H1 Q I1 q1
theorem pt_not (ha : PT X a tA) : PT X (.UnaryOp .Not a pos) (tNot tA) := by
  intro pins s σ H Q I h
  exact isTrue_not (ha pins s σ H (fun c H1 => Q (!c) H1) I h)
/-- .. as values (bools) -/
def tAndV (ta tb : TE) : TE := fun σ H Q => ta σ H fun x H1 => ∃ c, x = .bl c ∧ if c = true then tb σ H1 Q else Q (.bl false) H1
def tNotV (ta : TE) : TE := fun σ H Q => ta σ H fun x H1 => ∃ c, x = .bl c ∧ Q (.bl (!c)) H1
theorem pe_one {op} {t : TE} (h : PE X a t) : PE X (.BoolOp op [a] pos) t := fun pins s σ H Q I hw => BoolOp_one (h pins s σ H Q I hw)
theorem pe_and (ha : PE X a ta) (hb : PE X (.BoolOp .And (b :: rest) pos) tb) : PE X (.BoolOp .And (a :: b :: rest) pos) (tAndV ta tb) := by
  intro pins s σ H Q I h
  refine BoolOp_and (thn (ha pins s σ H _ I h) fun v s1 ⟨x, H1, I1, r1, q1⟩ => ?_)
  obtain ⟨c, rfl, q1⟩ := q1
  cases r1
  refine wpAny_truthy_bool ?_
  cases c with
  | true => exact hb pins s1 σ H1 Q I1 q1
  | false => exact ⟨.bl false, H1, I1, rfl, q1⟩
theorem pe_not (ha : PE X a ta) : PE X (.UnaryOp .Not a pos) (tNotV ta) := by
  intro pins s σ H Q I h
  refine UnaryOp_ (thn (ha pins s σ H _ I h) fun v s1 ⟨x, H1, I1, r1, q1⟩ => ?_)
  obtain ⟨c, rfl, q1⟩ := q1
  cases r1
  exact not_of (wpAny_truthy_bool ⟨.bl (!c), H1, I1, rfl, q1⟩)
end
end L2

namespace L2
open PySem PySem.Spec PyProof.Rows

/-! ### a list, a tuple that is read: tracked, frozen, or an object of the module -/
def SqL (K : PySem.W.Frag) (H : Hp) (a : Addr) (xs : List V) : Prop :=
  Rd H a (.lst xs) ∨
    ∃ (o : Obj) (its : Array Value) (n : Nat), K.lookup a = some o ∧ o.cls = .type "list" ∧ o.dict = none ∧ o.data = .seq its n ∧ its.size ≤ sizeLine ∧ Vals xs its.toList
def SqT (K : PySem.W.Frag) (H : Hp) (a : Addr) (xs : List V) : Prop :=
  Rd H a (.tup xs) ∨
    ∃ (o : Obj) (its : Array Value) (n : Nat), K.lookup a = some o ∧ o.cls = .type "tuple" ∧ o.dict = none ∧ o.data = .seq its n ∧ its.size ≤ sizeLine ∧ Vals xs its.toList
def absV : Value → Option V
  | .none => some .non
  | .bool b => some (.bl b)
  | .int i _ => some (.int i)
  | .str x _ => some (.str x)
  | .bytes b _ => some (.byt b)
  | .float b _ => some (.flt b)
  | .ref a => some (.ref a)
  | .type n => some (.ty n)
  | _ => none
theorem RelV.abs {x : V} {u : Value} (r : RelV x u) : absV u = some x := by
  cases x with
  | non => cases r; rfl
  | bl _ => cases r; rfl
  | int _ => obtain ⟨t, rfl⟩ := r; rfl
  | str _ => obtain ⟨t, rfl⟩ := r; rfl
  | byt _ => obtain ⟨t, rfl⟩ := r; rfl
  | flt _ => obtain ⟨t, rfl⟩ := r; rfl
  | ref _ => cases r; rfl
  | ty _ => cases r; rfl
theorem RelV.inj {x y : V} {u : Value} (r : RelV x u) (q : RelV y u) : x = y := Option.some.inj (r.abs.symm.trans q.abs)
theorem Vals.inj : ∀ {xs ys : List V} {us : List Value}, Vals xs us → Vals ys us → xs = ys
  | _, _, _, .nil, .nil => rfl
  | _, _, _, .cons r t, .cons r' t' => by rw [r.inj r', Vals.inj t t']
section
variable {X : Cx} {pins : List (Addr × Obj)} {σ : St} {H : Hp} {s : Shared} {a : Addr} {xs ys : List V}
theorem SqL.of {K : PySem.W.Frag} (h : H a = some (.lst xs)) : SqL K H a xs := .inl (.inl h)
theorem SqT.of {K : PySem.W.Frag} (h : H a = some (.tup xs)) : SqT K H a xs := .inl (.inl h)
theorem Inv.list (I : Inv X pins σ H s) (h : SqL X.K H a xs) : ∃ its : List Value, Vals xs its ∧ PlainL s.heap a its.toArray ∧ xs.length ≤ sizeLine := by
  rcases h with h | ⟨o, its, n, hk, hc, hd, hs, hz, r⟩
  · obtain ⟨z, its, n, r, e⟩ := h.ok I.hok
    exact ⟨its, r, ⟨_, n, e, rfl, rfl, rfl⟩, z⟩
  · refine ⟨its.toList, r, ⟨o, n, I.kIn a o hk, hc, hd, by simpa using hs⟩, ?_⟩
    have e := r.length
    simp only [Array.length_toList] at e
    omega
theorem Inv.tupleN (I : Inv X pins σ H s) (h : SqT X.K H a xs) : ∃ its : List Value, Vals xs its ∧ IsTupN s.heap a its.toArray ∧ xs.length ≤ sizeLine := by
  rcases h with h | ⟨o, its, n, hk, hc, hd, hs, hz, r⟩
  · obtain ⟨z, its, r, p⟩ := h.ok I.hok
    exact ⟨its, r, p, z⟩
  · refine ⟨its.toList, r, ⟨o, I.kIn a o hk, hc, n, by simpa using hs, hd⟩, ?_⟩
    have e := r.length
    simp only [Array.length_toList] at e
    omega
theorem Inv.tuple (I : Inv X pins σ H s) (h : SqT X.K H a xs) : ∃ its : List Value, Vals xs its ∧ IsTup s.heap a its.toArray ∧ xs.length ≤ sizeLine :=
  let ⟨its, r, p, z⟩ := I.tupleN h
  ⟨its, r, p.tup, z⟩
theorem Inv.list_inj (I : Inv X pins σ H s) (h : SqL X.K H a xs) (h' : SqL X.K H a ys) : xs = ys := by
  obtain ⟨its, r, ⟨o, n, e, _, _, d⟩, _⟩ := I.list h
  obtain ⟨its', r', ⟨o', n', e', _, _, d'⟩, _⟩ := I.list h'
  rw [e] at e'; cases e'
  rw [d] at d'
  injection d' with d1 _
  have : its = its' := by simpa using congrArg Array.toList d1
  subst this
  exact r.inj r'
theorem Inv.tuple_inj (I : Inv X pins σ H s) (h : SqT X.K H a xs) (h' : SqT X.K H a ys) : xs = ys := by
  obtain ⟨its, r, ⟨o, e, _, n, d⟩, _⟩ := I.tuple h
  obtain ⟨its', r', ⟨o', e', _, n', d'⟩, _⟩ := I.tuple h'
  rw [e] at e'; cases e'
  rw [d] at d'
  injection d' with d1 _
  have : its = its' := by simpa using congrArg Array.toList d1
  subst this
  exact r.inj r'
end

/-! ### another wish about exceptions -/
abbrev Cx.wish (X : Cx) (E : Value → Shared → Prop) : Cx := { X with xe := E }
/-- no exception leaves -/
abbrev Cx.nox (X : Cx) : Cx := X.wish fun _ _ => False
theorem Cx.Ok.wish {X : Cx} (ok : X.Ok) (E : Value → Shared → Prop) : (X.wish E).Ok :=
  ⟨ok.mod, ok.kind, ok.glob, ok.blt, ok.above, ok.inj, ok.has, ok.cab, ok.hd, ok.frames, ok.stk, ok.exf, ok.bs, ok.bsz, ok.noex, ok.exfs, ok.funs, ok.frf⟩
theorem Cx.Ok.unwish {X : Cx} {E : Value → Shared → Prop} (ok : (X.wish E).Ok) : X.Ok :=
  ⟨ok.mod, ok.kind, ok.glob, ok.blt, ok.above, ok.inj, ok.has, ok.cab, ok.hd, ok.frames, ok.stk, ok.exf, ok.bs, ok.bsz, ok.noex, ok.exfs, ok.funs, ok.frf⟩
section
variable {X : Cx} {pins : List (Addr × Obj)} {σ : St} {H : Hp} {s : Shared} {E : Value → Shared → Prop}
theorem Inv.wish (I : Inv X pins σ H s) (E : Value → Shared → Prop) : Inv (X.wish E) pins σ H s := ⟨I.ok.wish E, I.os, I.bare, I.base, I.loc, I.cell, I.free, I.freeC, I.pin, I.hok, I.len⟩
theorem Inv.unwish (I : Inv (X.wish E) pins σ H s) : Inv X pins σ H s := ⟨I.ok.unwish, I.os, I.bare, I.base, I.loc, I.cell, I.free, I.freeC, I.pin, I.hok, I.len⟩
theorem SP.unwish {D : Ends} {f : Flow} {s' : Shared} (h : SP (X.wish E) pins D f s') : SP X pins D f s' := by
  cases f with
  | next => obtain ⟨σ', H', I, q⟩ := h; exact ⟨σ', H', I.unwish, q⟩
  | brk => obtain ⟨σ', H', I, q⟩ := h; exact ⟨σ', H', I.unwish, q⟩
  | cont => obtain ⟨σ', H', I, q⟩ := h; exact ⟨σ', H', I.unwish, q⟩
  | ret u => obtain ⟨v, σ', H', I, r, q⟩ := h; exact ⟨v, σ', H', I.unwish, r, q⟩
theorem PE.nox {e : Expr} {t : TE} (h : PE X.nox e t) : PE X e t := fun pins s σ H Q I hw =>
  wpAny_mono (h pins s σ H Q (I.wish _) hw) (fun _ _ ⟨v, H', I', r, q⟩ => ⟨v, H', I'.unwish, r, q⟩) fun _ _ z => False.elim z
theorem PT.nox {e : Expr} {t : TT} (h : PT X.nox e t) : PT X e t := fun pins s σ H Q I hw =>
  wpAny_mono (h pins s σ H Q (I.wish _) hw) (fun _ _ ⟨H', I', q⟩ => ⟨H', I'.unwish, q⟩) fun _ _ z => False.elim z
theorem PSs.nox {st : List Stmt} {t : TS} (h : PSs X.nox st t) : PSs X st t := fun pins s σ H D I hw =>
  wpAny_mono (h pins s σ H D (I.wish _) hw) (fun _ _ q => q.unwish) fun _ _ z => False.elim z
end

/-! ### blocks and small statements -/
section
variable {X : Cx} {st : Stmt} {rest : List Stmt} {t u : TS} {e : Expr} {te : TE} {pos : Pos}
def tNext : TS := fun D σ H => D.nx σ H
def tSeq (t u : TS) : TS := fun D σ H => t { D with nx := u D } σ H
theorem pss_nil : PSs X [] tNext := fun _ _ σ H _ I h => wpAny_execs_nil ⟨σ, H, I, h⟩
theorem pss_cons (h1 : PS X st t) (h2 : PSs X rest u) : PSs X (st :: rest) (tSeq t u) := by
  intro pins s σ H D I h
  refine wpAny_execs_cons (thn (h1 pins s σ H { D with nx := u D } I h) fun f s1 q => ?_)
  cases f with
  | next =>
    obtain ⟨σ', H', I', q⟩ := q
    exact h2 pins s1 σ' H' D I' q
  | ret v => exact q
  | brk => exact q
  | cont => exact q
theorem pss_one (h1 : PS X st t) : PSs X [st] t := by
  intro pins s σ H D I h
  refine wpAny_execs_cons (thn (h1 pins s σ H D I h) fun f s1 q => ?_)
  cases f with
  | next => exact wpAny_execs_nil q
  | ret v => exact q
  | brk => exact q
  | cont => exact q
/-- in a def's body nothing is shown -/
theorem Inv.quiet {pins : List (Addr × Obj)} {σ : St} {H : Hp} {s : Shared} (I : Inv X pins σ H s) : interactive X.env = false := by simp [interactive, I.ok.kind]
/-- an expression whose value is dropped -/
def tDrop (te : TE) : TS := fun D σ H => te σ H fun _ H1 => D.nx σ H1
theorem ps_expr (he : PE X e te) (hs : swapsWith e none pos.line X.env = pure false := by rfl) : PS X (.Expr e pos) (tDrop te) := by
  intro pins s σ H D I h
  exact wpAny_Expr_any (thn (he pins s σ H _ I h) fun v s1 ⟨x, H1, I1, r1, q1⟩ => ⟨σ, H1, I1, q1⟩) I.quiet hs
def tRet (te : TE) : TS := fun D σ H => te σ H D.rt
theorem ps_ret (he : PE X e te) : PS X (.Return (some e) pos) (tRet te) := by
  intro pins s σ H D I h
  exact wpAny_Return_some (thn (he pins s σ H _ I h) fun v s1 ⟨x, H1, I1, r1, q1⟩ => ⟨x, σ, H1, I1, r1, q1⟩)
def tIfS (c : TT) (t u : TS) : TS := fun D σ H => c σ H fun b H1 => if b = true then t D σ H1 else u D σ H1
theorem ps_if {c : Expr} {a b : List Stmt} {tc : TT} (hc : PT X c tc) (ha : PSs X a t) (hb : PSs X b u) : PS X (.If c a b pos) (tIfS tc t u) := by
  intro pins s σ H D I h
  refine wpAny_If (thn (hc pins s σ H _ I h) fun d s1 ⟨H1, I1, q1⟩ => ?_)
  cases d with
  | true => exact ha pins s1 σ H1 D I1 q1
  | false => exact hb pins s1 σ H1 D I1 q1
end

/-! ### targets -/
abbrev TG := V → St → Hp → (St → Hp → Prop) → Prop
abbrev TGs := List V → St → Hp → (St → Hp → Prop) → Prop
def PG (X : Cx) (target : Expr) (t : TG) : Prop :=
  ∀ (pins : List (Addr × Obj)) (s : Shared) (σ : St) (H : Hp) (v : V) (u : Value) (Q : St → Hp → Prop), Inv X pins σ H s → RelV v u → t v σ H Q →
    wpAny (model X.prog X.w) X.A (assign target X.env u) (fun _ s' => ∃ σ' H', Inv X pins σ' H' s' ∧ Q σ' H') X.xe s
/-- several targets, one after another -/
def PGs (X : Cx) (ts : List Expr) (t : TGs) : Prop :=
  ∀ (pins : List (Addr × Obj)) (s : Shared) (σ : St) (H : Hp) (vs : List V) (us : List Value) (Q : St → Hp → Prop), Inv X pins σ H s → Vals vs us → t vs σ H Q →
    wpAny (model X.prog X.w) X.A (assignInOrder ((assignEach ts X.env).map (·.2)) us) (fun _ s' => ∃ σ' H', Inv X pins σ' H' s' ∧ Q σ' H') X.xe s
/-- o[i] = v, by values -/
abbrev TSet := V → V → V → Hp → (Hp → Prop) → Prop
def PSet (X : Cx) (t : TSet) : Prop :=
  ∀ (pins : List (Addr × Obj)) (s : Shared) (σ : St) (H : Hp) (o i v : V) (ov iv u : Value) (Q : Hp → Prop), Inv X pins σ H s → RelV o ov → RelV i iv → RelV v u → t o i v H Q →
    wpAny (model X.prog X.w) X.A (setItem ov iv u) (fun _ s' => ∃ H', Inv X pins σ H' s' ∧ Q H') X.xe s
section
variable {X : Cx} {pos : Pos}
def gName (i : Nat) : TG := fun v σ H Q => Q (σ.set i (some v)) H
theorem pg_name {i : Nat} {x : Str} (hN : X.N.Nodup) (hi : X.N[i]? = some x) (hx : Loc X.env.scope x) (hf : X.fn x = true ∨ X.env.scope.names.lookup x = some .local := by first | exact .inl rfl | exact .inr rfl | assumption) : PG X (.Name x pos) (gName i) := by
  intro pins s σ H v u Q I r h
  exact wpAny_assign_Name (store_ok I hN hi hx r (fun s' I' => ⟨_, H, I', h⟩) hf)
def gNil : TGs := fun vs σ H Q => vs = [] ∧ Q σ H
def gCons (t : TG) (u : TGs) : TGs := fun vs σ H Q => ∃ v r, vs = v :: r ∧ t v σ H fun σ' H' => u r σ' H' Q
theorem pgs_nil : PGs X [] gNil := by
  intro pins s σ H vs us Q I r h
  obtain ⟨e, h⟩ := h
  subst e
  cases r
  exact assignInOrder_nil ⟨σ, H, I, h⟩
theorem pgs_cons {e : Expr} {es : List Expr} {t : TG} {u : TGs} (h1 : PG X e t) (h2 : PGs X es u)
    (hs : (assignEach (e :: es) X.env).map (·.2) = assign e X.env :: (assignEach es X.env).map (·.2) := by rfl) : PGs X (e :: es) (gCons t u) := by
  intro pins s σ H vs us Q I r h
  obtain ⟨v, vr, e1, h⟩ := h
  subst e1
  cases r with
  | cons r rr =>
    rw [hs]
    refine assignInOrder_cons (thn (h1 pins s σ H _ _ _ I r h) fun _ s1 ⟨σ1, H1, I1, q1⟩ => ?_)
    exact h2 pins s1 σ1 H1 _ _ Q I1 rr q1
/-- (a, b, ..) = a tuple of that length -/
def gTup (K : PySem.W.Frag) (n : Nat) (t : TGs) : TG := fun v σ H Q => ∃ a xs, v = .ref a ∧ SqT K H a xs ∧ xs.length = n ∧ t xs σ H Q
theorem pg_tup {es : List Expr} {k : Nat} {t : TGs} {n : Nat} (hc : X.calm = true) (h : PGs X es t)
    (hn : (assignEach es X.env).length = n := by rfl) (hst : (assignEach es X.env).findIdx? (·.1) = none := by rfl) : PG X (.Tuple es k pos) (gTup X.K n t) := by
  intro pins s σ H v u Q I r hw
  obtain ⟨a, xs, e1, hq, hl, hw⟩ := hw
  subst e1
  cases r
  obtain ⟨its, rv, ht, hz⟩ := I.tuple hq
  refine assign_Tuple_tuple (I.ok.hd hc) ht (by simp [hn, ← hl, rv.length]) hst fun h' hx => ?_
  have I1 : Inv X pins σ H { s with heap := h' } := I.kept (t' := s.toks) fun b o e => hx b o (Nat.ne_of_lt (Heap.lt_size e)) e
  exact h pins _ σ H xs _ Q I1 (by simpa using rv) hw
/-- o[i] = .. -/
def gSub (to ti : TE) (t : TSet) : TG := fun v σ H Q => to σ H fun o H1 => ti σ H1 fun i H2 => t o i v H2 fun H3 => Q σ H3
theorem pg_sub {o i : Expr} {to ti : TE} {t : TSet} (ho : PE X o to) (hi : PE X i ti) (hs : PSet X t)
    (ha : ∀ v, assign (.Subscript o i pos) X.env v = (do
      let ov ← holding [v] (eval o X.env)
      let iv ← holding [v, ov] (eval i X.env)
      standAt pos
      holding [v, ov, iv] (setItem ov iv v)
      release [v, ov, iv] []) := by intro _; rfl) : PG X (.Subscript o i pos) (gSub to ti t) := by
  intro pins s σ H v u Q I r h
  rw [ha]
  refine wpAny_bind (wpAny_holding (thn (ho pins s σ H _ I h) fun ov s1 ⟨x, H1, I1, r1, q1⟩ => ?_))
  refine wpAny_bind (wpAny_holding (thn (hi pins s1 σ H1 _ I1 q1) fun iv s2 ⟨y, H2, I2, r2, q2⟩ => ?_))
  refine wpAny_bind (wpAny_standAt (wpAny_bind (wpAny_holding (thn (hs pins s2 σ H2 x y v ov iv u _ I2 r1 r2 r q2) fun _ s3 ⟨H3, I3, q3⟩ => ?_))))
  exact wpAny_release ⟨σ, H3, I3, q3⟩
/-- target = value -/
def tAsg (te : TE) (g : TG) : TS := fun D σ H => te σ H fun x H1 => g x σ H1 D.nx
theorem ps_asg {tg e : Expr} {te : TE} {g : TG} (he : PE X e te) (hg : PG X tg g) (hs : swapsWithSole [tg] e pos.line X.env = pure false := by rfl) (hw : swappedStores [tg] e X.env = pure none := by rfl)
    (h1 : (assignEach [tg] X.env).map (·.2) = [assign tg X.env] := by rfl) : PS X (.Assign [tg] e pos) (tAsg te g) := by
  intro pins s σ H D I h
  refine wpAny_Assign_stores (thn (he pins s σ H _ I h) fun v s1 ⟨x, H1, I1, r1, q1⟩ => ?_) hs hw
  rw [h1]
  exact thn (hg pins s1 σ H1 x v _ I1 r1 q1) fun _ s2 q => q
/-- name = value -/
theorem ps_set {i : Nat} {x : Str} {e : Expr} {te : TE} {pos' : Pos} (hN : X.N.Nodup) (hi : X.N[i]? = some x) (hx : Loc X.env.scope x) (he : PE X e te) (hs : swapsWith e (some (.Name x pos')) pos.line X.env = pure false := by rfl) (hf : X.fn x = true ∨ X.env.scope.names.lookup x = some .local := by first | exact .inl rfl | exact .inr rfl | assumption) :
    PS X (.Assign [.Name x pos'] e pos) (tAsg te (gName i)) := by
  intro pins s σ H D I h
  refine wpAny_Assign_Name (thn (he pins s σ H _ I h) fun v s1 ⟨y, H1, I1, r1, q1⟩ => ?_) hs
  exact store_ok I1 hN hi hx r1 (fun s2 I2 => ⟨_, H1, I2, q1⟩) hf
end

/-! ### while -/
section
variable {X : Cx} {pos : Pos}
end

/-! ### what a loop or a comprehension walks -/
/-- at turn i: it yields x (the heap may grow), or it stops -/
structure It where
  go : Nat → Hp → Prop
  yld : Nat → Hp → V → Hp → Prop
  stop : Nat → Hp → Prop
/-- the iterator's own objects may turn: they are not the frame's, not pinned, younger than the entry (or a comprehension's own) -/
def FpOk (X : Cx) (pins : List (Addr × Obj)) (H : Hp) (b : Addr) : Prop :=
  H b = none ∧ b ≠ X.env.locals ∧ b ∉ X.fs ∧ (b ∈ X.ex ∨ X.s₀.heap.objs.size ≤ b) ∧ (∀ x c, X.env.cells.lookup x = some c → c ≠ b) ∧ ∀ p ∈ X.pn ++ pins, p.1 ≠ b
theorem Inv.fpOk {X : Cx} {pins : List (Addr × Obj)} {σ : St} {H H' : Hp} {s : Shared} {b : Addr} (I : Inv X pins σ H s) (hb : s.heap.objs.size ≤ b) (hn : H' b = none) : FpOk X pins H' b := by
  refine ⟨hn, Nat.ne_of_gt (Nat.lt_of_lt_of_le I.lt hb), I.nofs hb, .inr (Nat.le_trans I.sz hb), fun x c e z => ?_, fun p hp z => ?_⟩
  · obtain ⟨v, q⟩ := I.cell x c e
    exact absurd (Nat.lt_of_lt_of_le q.lt (by rw [z]; exact hb)) (Nat.lt_irrefl _)
  · exact absurd (Nat.lt_of_lt_of_le (Heap.lt_size (I.pin p hp).1) (by rw [z]; exact hb)) (Nat.lt_irrefl _)
structure Turn (P : Program) (w : World) (K : PySem.W.Frag) (tg : Expr) (J : It) (fp : List Addr) (it : Addr) (tn : Nat → Heap → Prop) : Prop where
  mem : it ∈ fp
  obj : ∀ i h, tn i h → ∀ b ∈ fp, ∃ o, h.get? b = some o ∧ ∀ v, o.data ≠ .cell v
  keep : ∀ i h h', tn i h → (∀ b ∈ fp, ∀ o, h.get? b = some o → h'.get? b = some o) → tn i h'
  item : ∀ (X : Cx), X.prog = P → X.w = w → X.K = K → X.calm = true → ∀ (i : Nat) (pins : List (Addr × Obj)) (s : Shared) (σ : St) (H : Hp) (E : Value → Shared → Prop), Inv X pins σ H s → (∀ b ∈ fp, FpOk X pins H b) → tn i s.heap → J.go i H →
    wpAny (model P w) X.A (pyNext (.ref it)) (fun r s1 => ∃ u, r = some u ∧
      wpAny (model P w) X.A (letOwnedTupleGo tg (.ref it) u) (fun _ s2 => ∃ x H', Inv X pins σ H' s2 ∧ RelV x u ∧ J.yld i H x H' ∧ tn (i + 1) s2.heap ∧ ∀ b ∈ fp, H' b = none) E s1) E s
  done : ∀ (X : Cx), X.prog = P → X.w = w → X.K = K → X.calm = true → ∀ (i : Nat) (pins : List (Addr × Obj)) (s : Shared) (σ : St) (H : Hp) (E : Value → Shared → Prop), Inv X pins σ H s → (∀ b ∈ fp, FpOk X pins H b) → tn i s.heap → J.stop i H →
    wpAny (model P w) X.A (pyNext (.ref it)) (fun r s1 => r = none ∧ Inv X pins σ H s1) E s
  self : ∀ (A : Around) (i : Nat) (s : Shared) (Q : Value → Shared → Prop) (E : Value → Shared → Prop), tn i s.heap → Q (.ref it) s → wpAny (model P w) A (pyIter (.ref it)) Q E s
abbrev TI := St → Hp → (It → Hp → Prop) → Prop
/-- an iterator has come -/
def PIE (X : Cx) (pins : List (Addr × Obj)) (σ : St) (tg : Expr) (R : It → Hp → Prop) (itv : Value) (s2 : Shared) : Prop :=
  ∃ (it : Addr) (fp : List Addr) (tn : Nat → Heap → Prop) (J : It) (H' : Hp), itv = .ref it ∧ Inv X pins σ H' s2 ∧ Turn X.prog X.w X.K tg J fp it tn ∧ tn 0 s2.heap ∧ (∀ b ∈ fp, FpOk X pins H' b) ∧ R J H'
def PI (X : Cx) (tg iter : Expr) (wi : TI) : Prop :=
  ∀ (pins : List (Addr × Obj)) (s : Shared) (σ : St) (H : Hp) (R : It → Hp → Prop), Inv X pins σ H s → wi σ H R →
    wpAny (model X.prog X.w) X.A (eval iter X.env) (fun v s1 => wpAny (model X.prog X.w) X.A (pyIter v) (PIE X pins σ tg R) X.xe s1) X.xe s

/-- the step ahead of the store is nothing for an iterator that keeps no tuple -/
theorem go_of {M : Model} {A : Around} {E : Value → Shared → Prop} {s : Shared} {tg : Expr} {it : Addr} {u : Value} {o : Obj} {n : String} {vs : Array Value} {Q : Unit → Shared → Prop} (ho : s.heap.get? it = some o) (hc : o.cls = .type n) (hd : o.data = .fields vs)
    (hn : ["enumerate", "zip", "dict_itemiterator", "dict_reverseitemiterator", "odict_iterator", "itertools.zip_longest", "itertools.pairwise"].contains n = false) (hQ : Q () s) : wpAny M A (letOwnedTupleGo tg (.ref it) u) Q E s := by
  unfold letOwnedTupleGo
  cases tg <;> first
    | exact wpAny_pure hQ
    | (cases u <;> first
        | exact wpAny_pure hQ
        | (refine wpAny_bind (wpAny_load ho ?_)
           rw [hc, hd]
           show wpAny M A (if (["enumerate", "zip", "dict_itemiterator", "dict_reverseitemiterator", "odict_iterator", "itertools.zip_longest", "itertools.pairwise"].contains n && vs[0]? == some (rawInt _)) = true then _ else _) Q E s
           rw [if_neg (by intro h; rw [hn, Bool.false_and] at h; cases h)]
           exact wpAny_pure hQ))

/-- the list at a, as it stands at each turn (a loop may append to it) -/
def Itl (K : PySem.W.Frag) (a : Addr) : It :=
  ⟨fun i H => ∃ xs x, SqL K H a xs ∧ xs[i]? = some x, fun i H x H' => H' = H ∧ ∀ xs, SqL K H a xs → xs[i]? = some x, fun i H => ∃ xs, SqL K H a xs ∧ xs.length ≤ i⟩
def Itt (K : PySem.W.Frag) (a : Addr) : It :=
  ⟨fun i H => ∃ xs x, SqT K H a xs ∧ xs[i]? = some x, fun i H x H' => H' = H ∧ ∀ xs, SqT K H a xs → xs[i]? = some x, fun i H => ∃ xs, SqT K H a xs ∧ xs.length ≤ i⟩
/-- lo, lo + 1, .. (n of them) -/
def Itr (lo : Int) (n : Nat) : It := ⟨fun i _ => i < n, fun i H x H' => H' = H ∧ x = .int (lo + i), fun i _ => n ≤ i⟩
theorem turn_list {P : Program} {w : World} {K : PySem.W.Frag} {tg : Expr} (a it : Addr) : Turn P w K tg (Itl K a) [it] it (fun i h => h.IsListIter it a i) where
  mem := by simp
  obj := fun i h st b hb => by
    have e : b = it := by simpa using hb
    subst e
    obtain ⟨o, e, c, d⟩ := st
    exact ⟨o, e, fun v z => by rw [d] at z; cases z⟩
  keep := fun i h h' st k => st.at fun o e => k it (by simp) o e
  item := by
    intro X hP hw hK hc i pins s σ H E I hf st hg
    subst hP hw hK
    obtain ⟨xs, x, hq, hx⟩ := hg
    obtain ⟨its, rv, p, hz⟩ := I.list hq
    obtain ⟨u, hu, ru⟩ := rv.get hx
    obtain ⟨f0, f1, f2, f3, f4, f5⟩ := hf it (by simp)
    refine wpAny_pyNext_list_item st p.isList (x := u) (by simpa using hu) fun h' st' sb => ?_
    have I1 : Inv X pins σ H { s with heap := h' } := I.turned (t' := s.toks) (fun b o hb e => (sb.2 b hb).trans e) f0 f1 f3 f4 f5
    obtain ⟨o, e, c, d⟩ := id st'
    exact ⟨u, rfl, go_of (s := { s with heap := h' }) e c d (by decide) ⟨x, H, I1, ru, ⟨rfl, fun ys hy => by rw [I.list_inj hy hq]; exact hx⟩, st', fun b hb => (hf b hb).1⟩⟩
  done := by
    intro X hP hw hK hc i pins s σ H E I hf st hg
    subst hP hw hK
    obtain ⟨xs, hq, hx⟩ := hg
    obtain ⟨its, rv, p, hz⟩ := I.list hq
    obtain ⟨f0, f1, f2, f3, f4, f5⟩ := hf it (by simp)
    have hl := rv.length
    exact wpAny_pyNext_list_end (I.ok.hd hc) st p.isList (by simp; omega) fun h' eb => ⟨rfl, I.turned (t' := s.toks) (fun b o hb e => eb b o hb e) f0 f1 f3 f4 f5⟩
  self := fun _ _ _ _ _ st h => wpAny_pyIter_listiter st h
theorem turn_tuple {P : Program} {w : World} {K : PySem.W.Frag} {tg : Expr} (a it : Addr) : Turn P w K tg (Itt K a) [it] it (fun i h => h.IsTupleIter it a i) where
  mem := by simp
  obj := fun i h st b hb => by
    have e : b = it := by simpa using hb
    subst e
    obtain ⟨o, e, c, d⟩ := st
    exact ⟨o, e, fun v z => by rw [d] at z; cases z⟩
  keep := fun i h h' st k => st.at fun o e => k it (by simp) o e
  item := by
    intro X hP hw hK hc i pins s σ H E I hf st hg
    subst hP hw hK
    obtain ⟨xs, x, hq, hx⟩ := hg
    obtain ⟨its, rv, p, hz⟩ := I.tuple hq
    obtain ⟨u, hu, ru⟩ := rv.get hx
    obtain ⟨f0, f1, f2, f3, f4, f5⟩ := hf it (by simp)
    refine wpAny_pyNext_tuple_item st (show s.heap.IsTuple a its.toArray from p) (x := u) (by simpa using hu) fun h' st' sb => ?_
    have I1 : Inv X pins σ H { s with heap := h' } := I.turned (t' := s.toks) (fun b o hb e => (sb.2 b hb).trans e) f0 f1 f3 f4 f5
    obtain ⟨o, e, c, d⟩ := id st'
    exact ⟨u, rfl, go_of (s := { s with heap := h' }) e c d (by decide) ⟨x, H, I1, ru, ⟨rfl, fun ys hy => by rw [I.tuple_inj hy hq]; exact hx⟩, st', fun b hb => (hf b hb).1⟩⟩
  done := by
    intro X hP hw hK hc i pins s σ H E I hf st hg
    subst hP hw hK
    obtain ⟨xs, hq, hx⟩ := hg
    obtain ⟨its, rv, p, hz⟩ := I.tuple hq
    obtain ⟨f0, f1, f2, f3, f4, f5⟩ := hf it (by simp)
    have hl := rv.length
    exact wpAny_pyNext_tuple_end (I.ok.hd hc) st (show s.heap.IsTuple a its.toArray from p) (by simp; omega) fun h' eb => ⟨rfl, I.turned (t' := s.toks) (fun b o hb e => eb b o hb e) f0 f1 f3 f4 f5⟩
  self := fun _ _ _ _ _ st h => wpAny_pyIter_tupleiter st h
theorem turn_range {P : Program} {w : World} {K : PySem.W.Frag} {tg : Expr} (it : Addr) (lo : Int) (n : Nat) : Turn P w K tg (Itr lo n) [it] it (fun i h => IsRangeIter h it (lo + (i : Nat) * 1) ((n : Int) - (i : Nat)) 1) where
  mem := by simp
  obj := fun i h st b hb => by
    have e : b = it := by simpa using hb
    subst e
    exact ⟨_, st, fun v z => by
      have z' : Data.fields _ = Data.cell v := z
      cases z'⟩
  keep := fun i h h' st k => k it (by simp) _ st
  item := by
    intro X hP hw hK hc i pins s σ H E I hf st hg
    subst hP hw hK
    obtain ⟨f0, f1, f2, f3, f4, f5⟩ := hf it (by simp)
    have W := Walks.range (prog := X.prog) (w := X.w) (I.ok.hd hc) it lo 1 n
    refine W.item i s _ _ hg st fun v h' tk hv st' kk => ?_
    obtain ⟨t, rfl⟩ := hv
    have I1 : Inv X pins σ H { s with heap := h', toks := tk } := I.turned (fun b o hb e => kk b o (by simpa using hb) e) f0 f1 f3 f4 f5
    refine ⟨_, rfl, go_of (s := { s with heap := h', toks := tk }) (n := "range_iterator") st' rfl rfl (by decide) ⟨.int (lo + i), H, I1, ⟨t, ?_⟩, ⟨rfl, rfl⟩, st', fun b hb => (hf b hb).1⟩⟩
    rw [Int.mul_one]
  done := by
    intro X hP hw hK hc i pins s σ H E I hf st hg
    subst hP hw hK
    obtain ⟨f0, f1, f2, f3, f4, f5⟩ := hf it (by simp)
    exact wpAny_pyNext_range_end (I.ok.hd hc) st (by have : n ≤ i := hg; omega) fun h' eb => ⟨rfl, I.turned (t' := s.toks) (fun b o hb e => eb b o hb e) f0 f1 f3 f4 f5⟩
  self := fun _ _ _ _ _ st h => wpAny_pyIter_rangeiter st h
end L2

namespace L2
open PySem PySem.Spec PyProof.Rows
section
variable {X : Cx} {tg : Expr}
def iList (K : PySem.W.Frag) (tl : TE) : TI := fun σ H R => tl σ H fun x H1 => ∃ a, x = .ref a ∧ (∃ xs, SqL K H1 a xs) ∧ R (Itl K a) H1
def iTup (K : PySem.W.Frag) (tl : TE) : TI := fun σ H R => tl σ H fun x H1 => ∃ a, x = .ref a ∧ (∃ xs, SqT K H1 a xs) ∧ R (Itt K a) H1
theorem pi_list {l : Expr} {tl : TE} (hl : PE X l tl) : PI X tg l (iList X.K tl) := by
  intro pins s σ H R I h
  refine thn (hl pins s σ H _ I h) fun v s1 ⟨x, H1, I1, r1, q1⟩ => ?_
  obtain ⟨a, e, ⟨xs, hq⟩, q⟩ := q1
  subst e
  cases r1
  obtain ⟨its, rv, p, hz⟩ := I1.list hq
  refine wpAny_pyIter_list p.isList ?_
  refine ⟨s1.heap.objs.size, [s1.heap.objs.size], _, _, H1, rfl, I1.kept (t' := s1.toks) fun b o e => Heap.get?_push_of_some _ e, turn_list a _, ⟨_, Heap.get?_push_size _ rfl, rfl, rfl⟩, fun b hb => ?_, q⟩
  have e : b = s1.heap.objs.size := by simpa using hb
  subst e
  exact I1.fpOk (Nat.le_refl _) (I1.hok.fresh (Nat.le_refl _))
theorem pi_tup {l : Expr} {tl : TE} (hl : PE X l tl) : PI X tg l (iTup X.K tl) := by
  intro pins s σ H R I h
  refine thn (hl pins s σ H _ I h) fun v s1 ⟨x, H1, I1, r1, q1⟩ => ?_
  obtain ⟨a, e, ⟨xs, hq⟩, q⟩ := q1
  subst e
  cases r1
  obtain ⟨its, rv, p, hz⟩ := I1.tuple hq
  refine wpAny_pyIter_tuple (show s1.heap.IsTuple a its.toArray from p) ?_
  refine ⟨s1.heap.objs.size, [s1.heap.objs.size], _, _, H1, rfl, I1.kept (t' := s1.toks) fun b o e => Heap.get?_push_of_some _ e, turn_tuple a _, ⟨_, Heap.get?_push_size _ rfl, rfl, rfl⟩, fun b hb => ?_, q⟩
  have e : b = s1.heap.objs.size := by simpa using hb
  subst e
  exact I1.fpOk (Nat.le_refl _) (I1.hok.fresh (Nat.le_refl _))
/-- a range object just made, walked -/
theorem range_it {pins : List (Addr × Obj)} {σ : St} {H : Hp} {s : Shared} {R : It → Hp → Prop} {E : Value → Shared → Prop} {lo hi : Int} {t u v : Tok} {tk : Nat} (I : Inv X pins σ H s) (h1 : -(2 ^ 62) ≤ lo) (h2 : lo < 2 ^ 62) (h3 : -(2 ^ 62) ≤ hi) (h4 : hi < 2 ^ 62)
    (q : R (Itr lo (hi - lo).toNat) H) : wpAny (model X.prog X.w) X.A (pyIter (.ref s.heap.objs.size)) (PIE X pins σ tg R) E { s with heap := s.heap.push { cls := .type "range", data := .fields #[.int lo t, .int hi u, .int 1 v] }, toks := tk } := by
  refine wpAny_pyIter_range (IsRange.new ..) (small_one h1 h2 h3 h4) ?_
  have I1 : Inv X pins σ H { s with heap := s.heap.push { cls := .type "range", data := .fields #[.int lo t, .int hi u, .int 1 v] }, toks := tk } := I.kept fun b o e => Heap.get?_push_of_some _ e
  refine ⟨(s.heap.push { cls := .type "range", data := .fields #[.int lo t, .int hi u, .int 1 v] }).objs.size, [(s.heap.push { cls := .type "range", data := .fields #[.int lo t, .int hi u, .int 1 v] }).objs.size], _, _, H, rfl,
    I1.kept (t' := tk) fun b o e => Heap.get?_push_of_some _ e, turn_range _ lo (hi - lo).toNat, ?_, fun b hb => ?_, q⟩
  · have e1 : lo + ((0 : Nat) : Int) * 1 = lo := by simp
    have e2 : (((hi - lo).toNat : Nat) : Int) - ((0 : Nat) : Int) = Builtin.Range.rangeSize lo hi 1 := by rw [rangeSize_one]; split <;> omega
    show IsRangeIter _ _ (lo + ((0 : Nat) : Int) * 1) ((((hi - lo).toNat : Nat) : Int) - ((0 : Nat) : Int)) 1
    rw [e1, e2]
    exact Heap.get?_push_size _ rfl
  · have e : b = (s.heap.push { cls := .type "range", data := .fields #[.int lo t, .int hi u, .int 1 v] }).objs.size := by simpa using hb
    subst e
    exact I1.fpOk (Nat.le_refl _) (I1.hok.fresh (Nat.le_refl _))
def iRng1 (ta : TA) : TI := fun σ H R => ta σ H fun vs H1 => ∃ j : Int, vs = [.int j] ∧ -(2 ^ 62) ≤ j ∧ j < 2 ^ 62 ∧ R (Itr 0 j.toNat) H1
def iRng2 (ta : TA) : TI := fun σ H R => ta σ H fun vs H1 => ∃ i j : Int, vs = [.int i, .int j] ∧ (-(2 ^ 62) ≤ i ∧ i < 2 ^ 62 ∧ -(2 ^ 62) ≤ j ∧ j < 2 ^ 62) ∧ R (Itr i (j - i).toNat) H1
theorem pi_range1 {a : Expr} {ta : TA} {p pos : Pos} (hg : Gl X "range") (hm : X.mg "range" = none) (ha : PA X [a] ta) (hs : starEach [a] X.env = [(false, eval a X.env)] := by rfl) : PI X tg (.Call (.Name "range" p) [a] [] pos) (iRng1 ta) := by
  intro pins s σ H R I h
  refine Call_ (ld_blt I hg hm boot_range (PyProof.Rows.callWith_type1 (thn (ha pos pins s σ H _ I h) fun us s1 ⟨vs, H1, I1, r1, q1⟩ => ?_) hs rfl))
  obtain ⟨j, e, q1, q2, q⟩ := q1
  subst e
  cases r1 with
  | cons r rr =>
    cases rr
    obtain ⟨t, rfl⟩ := r
    exact call_range_1 (range_it I1 (by omega) (by omega) q1 q2 (by simpa using q))
theorem pi_range2 {a b : Expr} {ta : TA} {p pos : Pos} (hg : Gl X "range") (hm : X.mg "range" = none) (ha : PA X [a, b] ta) (hs : starEach [a, b] X.env = [(false, eval a X.env), (false, eval b X.env)] := by rfl) (hs2 : starEach [b] X.env = [(false, eval b X.env)] := by rfl) :
    PI X tg (.Call (.Name "range" p) [a, b] [] pos) (iRng2 ta) := by
  intro pins s σ H R I h
  refine Call_ (ld_blt I hg hm boot_range (PyProof.Rows.callWith_type1 (thn (ha pos pins s σ H _ I h) fun us s1 ⟨vs, H1, I1, r1, q1⟩ => ?_) (by rw [hs, hs2]) (by rw [hs2]; rfl)))
  obtain ⟨i, j, e, ⟨q1, q2, q3, q4⟩, q⟩ := q1
  subst e
  cases r1 with
  | cons r rr =>
    cases rr with
    | cons r' rr =>
      cases rr
      obtain ⟨t, rfl⟩ := r
      obtain ⟨t', rfl⟩ := r'
      exact call_range_2 (range_it I1 q1 q2 q3 q4 q)

/-! ### for -/
/-- W: the invariant by the turn and a measure; N: what the body is to reach -/
def tFor (wi : TI) (g : TG) (tb : TS) : TS := fun D σ H => wi σ H fun J H1 => ∃ W : Nat → Nat → St → Hp → Prop, (∃ m, W 0 m σ H1) ∧ ∀ i m σ H, W i m σ H →
  (J.stop i H ∧ D.nx σ H) ∨ (J.go i H ∧ ∃ N : St → Hp → Prop, (∀ σ' H', N σ' H' → ∃ m', m' < m ∧ W (i + 1) m' σ' H') ∧ ∀ x H', J.yld i H x H' → g x σ H' fun σ2 H2 => tb { D with nx := N, ct := N, bk := D.nx } σ2 H2)
/-- the records at fp as they stand -/
def pinsAt (fp : List Addr) (h : Heap) : List (Addr × Obj) := fp.filterMap fun b => (h.get? b).map fun o => (b, o)
theorem mem_pinsAt {fp : List Addr} {h : Heap} {b : Addr} {o : Obj} (hb : b ∈ fp) (e : h.get? b = some o) : (b, o) ∈ pinsAt fp h := List.mem_filterMap.mpr ⟨b, hb, by rw [e]; rfl⟩
theorem of_pinsAt {fp : List Addr} {h : Heap} {p : Addr × Obj} (hp : p ∈ pinsAt fp h) : p.1 ∈ fp ∧ h.get? p.1 = some p.2 := by
  obtain ⟨b, hb, e⟩ := List.mem_filterMap.mp hp
  cases q : h.get? b with
  | none => rw [q] at e; cases e
  | some o =>
    rw [q] at e
    have e' : (b, o) = p := Option.some.inj e
    subst e'
    exact ⟨hb, q⟩
theorem Inv.pinned {pins : List (Addr × Obj)} {σ : St} {H : Hp} {s : Shared} {fp : List Addr} (I : Inv X pins σ H s) (hf : ∀ b ∈ fp, FpOk X pins H b) (ho : ∀ b ∈ fp, ∃ o, s.heap.get? b = some o ∧ ∀ v, o.data ≠ .cell v) : Inv X (pins ++ pinsAt fp s.heap) σ H s :=
  I.pins_of fun p hp => (List.mem_append.mp hp).elim (fun z => I.pin p (List.mem_append_right _ z)) fun z => by
    obtain ⟨hb, e⟩ := of_pinsAt z
    obtain ⟨f0, f1, f2, _⟩ := hf p.1 hb
    obtain ⟨o, e', d⟩ := ho p.1 hb
    rw [e] at e'; cases e'
    exact ⟨e, f0, f1, f2, d⟩
theorem Inv.unpinned {pins pl : List (Addr × Obj)} {σ : St} {H : Hp} {s : Shared} (I : Inv X (pins ++ pl) σ H s) : Inv X pins σ H s := I.pins_of fun p hp => I.pin p (List.mem_append_right _ (List.mem_append_left _ hp))
theorem ps_for {iter : Expr} {body : List Stmt} {wi : TI} {g : TG} {tb : TS} {pos : Pos} (hp : PassesOwn (model X.prog X.w) X.A X.env X.xe) (hc : X.calm = true) (hi : PI X tg iter wi) (hg : PG X tg g) (hb : PSs X body tb)
    (hs : ∀ x, foldedSetIterable iter X.env x = pure x := by intro _; rfl) : PS X (.For tg iter body [] pos) (tFor wi g tb) := by
  intro pins s σ H D I h
  refine wpAny_For (thn (hi pins s σ H _ I h) fun v s1 h1 => thn h1 fun itv s2 h2 => ?_) hs
  obtain ⟨it, fp, tn, J, H2, e, I2, T, st2, f2, W, ⟨m0, w0⟩, turn⟩ := h2
  subst e
  -- what stays true of the iterator's objects through the loop
  have stat : ∀ {H' : Hp}, (∀ b ∈ fp, H' b = none) → ∀ b ∈ fp, FpOk X pins H' b := fun hn b hb => ⟨hn b hb, (f2 b hb).2⟩
  refine codeAny_forLoop_any (fun n s' => ∃ i σ' H', Inv X pins σ' H' s' ∧ tn i s'.heap ∧ (∀ b ∈ fp, H' b = none) ∧ W i n σ' H') ?_ m0 ⟨0, σ, H2, I2, st2, fun b hb => (f2 b hb).1, w0⟩
  rintro n s3 ⟨i, σ3, H3, I3, st3, fr3, w3⟩
  rcases turn i n σ3 H3 w3 with ⟨stop, qn⟩ | ⟨go, N, hN, step⟩
  · refine wpAny_passesOwn hp (thn (T.done X rfl rfl rfl hc i pins s3 σ3 H3 X.xe I3 (stat fr3) st3 stop) fun r s4 ⟨hr, I4⟩ => ?_)
    subst hr
    exact wpAny_execs_nil ⟨σ3, H3, I4, qn⟩
  · refine wpAny_passesOwn hp (thn (T.item X rfl rfl rfl hc i pins s3 σ3 H3 X.xe I3 (stat fr3) st3 go) fun r s4 ⟨u, hr, h4⟩ => ?_)
    subst hr
    refine wpAny_passesOwn hp (thn h4 fun _ s5 ⟨x, H5, I5, r5, y5, st5, fr5⟩ => ?_)
    have I5' := I5.pinned (stat fr5) (T.obj _ _ st5)
    refine wpAny_passesOwn hp (thn (hg _ s5 σ3 H5 x u _ I5' r5 (step x H5 y5)) fun _ s6 ⟨σ6, H6, I6, q6⟩ => ?_)
    refine wpAny_passesOwn hp (thn (hb _ s6 σ6 H6 _ I6 q6) fun f s7 q7 => ?_)
    have again : ∀ {σ7 : St} {H7 : Hp}, Inv X (pins ++ pinsAt fp s5.heap) σ7 H7 s7 → N σ7 H7 → ∃ m, m < n ∧ ∃ i σ' H', Inv X pins σ' H' s7 ∧ tn i s7.heap ∧ (∀ b ∈ fp, H' b = none) ∧ W i m σ' H' := fun {σ7 H7} I7 n7 => by
      obtain ⟨m', hm, w7⟩ := hN σ7 H7 n7
      refine ⟨m', hm, i + 1, σ7, H7, I7.unpinned, T.keep _ _ _ st5 fun b hb o e => (I7.pin (b, o) (List.mem_append_right _ (List.mem_append_right _ (mem_pinsAt hb e)))).1, fun b hb => ?_, w7⟩
      obtain ⟨o, e, d⟩ := T.obj _ _ st5 b hb
      exact (I7.pin (b, o) (List.mem_append_right _ (List.mem_append_right _ (mem_pinsAt hb e)))).2.1
    cases f with
    | next => obtain ⟨σ7, H7, I7, n7⟩ := q7; exact again I7 n7
    | cont => obtain ⟨σ7, H7, I7, n7⟩ := q7; exact again I7 n7
    | brk => obtain ⟨σ7, H7, I7, q7⟩ := q7; exact ⟨σ7, H7, I7.unpinned, q7⟩
    | ret v => obtain ⟨x7, σ7, H7, I7, r7, q7⟩ := q7; exact ⟨x7, σ7, H7, I7.unpinned, r7, q7⟩
end

end L2

namespace L2
open PySem PySem.Spec PyProof.Rows

abbrev R2 := V → V → Hp → VK → Prop
/-- a two-place operation on values: f is binaryOp op, inplaceOp op or compareOp op -/
def OpR (X : Cx) (f : Value → Value → Sem Value) (r : R2) : Prop :=
  ∀ (pins : List (Addr × Obj)) (s : Shared) (σ : St) (H : Hp) (x y : V) (v u : Value) (Q : VK), Inv X pins σ H s → RelV x v → RelV y u → r x y H Q →
    wpAny (model X.prog X.w) X.A (f v u) (EP X pins σ Q) X.xe s
/-- a one-place operation -/
def UnR (X : Cx) (f : Value → Sem Value) (r : V → Hp → VK → Prop) : Prop :=
  ∀ (pins : List (Addr × Obj)) (s : Shared) (σ : St) (H : Hp) (x : V) (v : Value) (Q : VK), Inv X pins σ H s → RelV x v → r x H Q →
    wpAny (model X.prog X.w) X.A (f v) (EP X pins σ Q) X.xe s
/-- a call of a value that is known (a builtin, a type) with values -/
def CallR (X : Cx) (f : Value) (r : List V → Hp → VK → Prop) : Prop :=
  ∀ (pins : List (Addr × Obj)) (s : Shared) (σ : St) (H : Hp) (xs : List V) (us : List Value) (Q : VK), Inv X pins σ H s → Vals xs us → r xs H Q →
    wpAny (model X.prog X.w) X.A (call f us) (EP X pins σ Q) X.xe s
/-- a value's truth -/
def TruR (X : Cx) (r : V → Hp → (Bool → Hp → Prop) → Prop) : Prop :=
  ∀ (pins : List (Addr × Obj)) (s : Shared) (σ : St) (H : Hp) (x : V) (v : Value) (Q : Bool → Hp → Prop), Inv X pins σ H s → RelV x v → r x H Q →
    wpAny (model X.prog X.w) X.A (truthy v) (TP X pins σ Q) X.xe s

def tOp (r : R2) (ta tb : TE) : TE := fun σ H Q => ta σ H fun x H1 => tb σ H1 fun y H2 => r x y H2 Q
def tUn (r : V → Hp → VK → Prop) (ta : TE) : TE := fun σ H Q => ta σ H fun x H1 => r x H1 Q
/-- ints in, under C, and a value out -/
def rI (C : Int → Int → Prop) (g : Int → Int → V) : R2 := fun x y H Q => ∃ i j, x = .int i ∧ y = .int j ∧ C i j ∧ Q (g i j) H
def rI0 (g : Int → Int → V) : R2 := fun x y H Q => ∃ i j, x = .int i ∧ y = .int j ∧ Q (g i j) H
def rU (g : Int → V) : V → Hp → VK → Prop := fun x H Q => ∃ i, x = .int i ∧ Q (g i) H

section
variable {X : Cx} {a b c : Expr} {ta tb tc : TE} {pos : Pos}

theorem binT (ha : PE X a ta) (hb : PE X b tb) {pins : List (Addr × Obj)} {s : Shared} {σ : St} {H : Hp} {R : V → V → Hp → Prop} (I : Inv X pins σ H s)
    (h : ta σ H fun x H1 => tb σ H1 fun y H2 => R x y H2) {Q : Value → Shared → Prop} {f : Value → Value → Sem Value}
    (hf : ∀ v u s2 x y H2, Inv X pins σ H2 s2 → RelV x v → RelV y u → R x y H2 → wpAny (model X.prog X.w) X.A (f v u) Q X.xe s2) :
    wpAny (model X.prog X.w) X.A (eval a X.env) (fun v s₁ => wpAny (model X.prog X.w) X.A (eval b X.env) (fun u s₂ => wpAny (model X.prog X.w) X.A (f v u) Q X.xe s₂) X.xe s₁) X.xe s := by
  refine thn (ha pins s σ H _ I h) fun v s1 ⟨x, H1, I1, r1, q1⟩ => ?_
  refine thn (hb pins s1 σ H1 _ I1 q1) fun u s2 ⟨y, H2, I2, r2, q2⟩ => ?_
  exact hf v u s2 x y H2 I2 r1 r2 q2

theorem pe_op {op : Operator} {r : R2} (ho : OpR X (binaryOp op) r) (ha : PE X a ta) (hb : PE X b tb) : PE X (.BinOp a op b pos) (tOp r ta tb) := by
  intro pins s σ H Q I h
  exact wpAny_BinOp (binT ha hb I h fun v u s2 x y H2 I2 rx ry q => ho pins s2 σ H2 x y v u Q I2 rx ry q)
theorem pe_un {op : UnaryOp} {r : V → Hp → VK → Prop} (ho : UnR X (unaryOp op) r) (ha : PE X a ta) : PE X (.UnaryOp op a pos) (tUn r ta) := by
  intro pins s σ H Q I h
  exact UnaryOp_ (thn (ha pins s σ H _ I h) fun v s1 ⟨x, H1, I1, r1, q1⟩ => ho pins s1 σ H1 x v Q I1 r1 q1)
/-! ### ints -/
theorem opI {f : Value → Value → Sem Value} {C : Int → Int → Prop} {g : Int → Int → Int}
    (rule : ∀ (i j : Int) (t u : Tok) (s : Shared) (Q : Value → Shared → Prop) (E : Value → Shared → Prop), C i j → Q (.int (g i j) s.toks) { s with toks := s.toks + 1 } → wpAny (model X.prog X.w) X.A (f (.int i t) (.int j u)) Q E s) :
    OpR X f (rI C fun i j => .int (g i j)) := by
  intro pins s σ H x y v u Q I rx ry h
  obtain ⟨i, j, rfl, rfl, hc, q⟩ := h
  obtain ⟨t, rfl⟩ := rx
  obtain ⟨t', rfl⟩ := ry
  exact rule i j t t' s _ _ hc ⟨.int (g i j), H, I.tok _, ⟨_, rfl⟩, q⟩
theorem opI0 {f : Value → Value → Sem Value} {g : Int → Int → Int}
    (rule : ∀ (i j : Int) (t u : Tok) (s : Shared) (Q : Value → Shared → Prop) (E : Value → Shared → Prop), Q (.int (g i j) s.toks) { s with toks := s.toks + 1 } → wpAny (model X.prog X.w) X.A (f (.int i t) (.int j u)) Q E s) :
    OpR X f (rI0 fun i j => .int (g i j)) := by
  intro pins s σ H x y v u Q I rx ry h
  obtain ⟨i, j, rfl, rfl, q⟩ := h
  obtain ⟨t, rfl⟩ := rx
  obtain ⟨t', rfl⟩ := ry
  exact rule i j t t' s _ _ ⟨.int (g i j), H, I.tok _, ⟨_, rfl⟩, q⟩
def CDiv (i j : Int) : Prop := 0 < j ∧ j < 1073741824
def CMul (i j : Int) : Prop := (-(2 ^ 64) < i ∧ i < 2 ^ 64) ∨ (-(2 ^ 64) < j ∧ j < 2 ^ 64)
theorem CMul.ok {i j : Int} (h : CMul i j) : IntMulOk i j := by
  rcases h with ⟨h1, h2⟩ | ⟨h1, h2⟩
  · exact .of_left (intBits_le_64 h1 h2)
  · exact .of_right (intBits_le_64 h1 h2)
theorem op_sub : OpR X (binaryOp .Sub) (rI0 fun i j => .int (i - j)) := opI0 fun _ _ _ _ _ _ _ q => sub_int q
theorem op_mul : OpR X (binaryOp .Mult) (rI CMul fun i j => .int (i * j)) := opI fun _ _ _ _ _ _ _ hc q => mul_int q hc.ok
/-- // by a positive divisor -/
theorem op_fdiv : OpR X (binaryOp .FloorDiv) (rI CDiv fun i j => .int (i / j)) := opI fun i j _ _ _ _ _ hc q => by
  have h1 : (0 : Int) < j := hc.1
  have h2 : j < 1073741824 := hc.2
  exact floordiv_int (by omega) (by rw [Int.fdiv_eq_ediv_of_nonneg i (by omega)]; exact q) (.inl (PyProof.noPylong_small (by omega)))
/-- % by a positive divisor of any size -/
theorem op_mod : OpR X (binaryOp .Mod) (rI (fun _ j => 0 < j) fun i j => .int (i % j)) := opI fun i j _ _ _ _ _ hc q => by
  have h1 : (0 : Int) < j := hc
  exact mod_int' (by omega) (by rw [Int.fmod_eq_emod_of_nonneg i (by omega)]; exact q)
theorem unI {f : Value → Sem Value} {g : Int → Int}
    (rule : ∀ (i : Int) (t : Tok) (s : Shared) (Q : Value → Shared → Prop) (E : Value → Shared → Prop), Q (.int (g i) s.toks) { s with toks := s.toks + 1 } → wpAny (model X.prog X.w) X.A (f (.int i t)) Q E s) :
    UnR X f (rU fun i => .int (g i)) := by
  intro pins s σ H x v Q I rx h
  obtain ⟨i, rfl, q⟩ := h
  obtain ⟨t, rfl⟩ := rx
  exact rule i t s _ _ ⟨.int (g i), H, I.tok _, ⟨_, rfl⟩, q⟩
theorem un_neg : UnR X (unaryOp .USub) (rU fun i => .int (-i)) := unI fun _ _ _ _ _ q => neg_int q
end

section
variable {X : Cx} {a b c : Expr} {ta tb tc : TE} {pos : Pos}
theorem fin_bl {pins : List (Addr × Obj)} {σ : St} {H : Hp} {s : Shared} {Q : VK} {k k' : Bool} (I : Inv X pins σ H s) (q : Q (.bl k) H) (e : k = k') : EP X pins σ Q (.bool k') s := by
  subst e
  exact ⟨.bl k, H, I, rfl, q⟩
/-- two rules for one operation: by cases -/
theorem OpR.or {f : Value → Value → Sem Value} {r r' : R2} (h : OpR X f r) (h' : OpR X f r') : OpR X f (fun x y H Q => r x y H Q ∨ r' x y H Q) := by
  intro pins s σ H x y v u Q I rx ry q
  rcases q with q | q
  · exact h pins s σ H x y v u Q I rx ry q
  · exact h' pins s σ H x y v u Q I rx ry q

theorem nomark (b : Expr) {op : CmpOp} (h : op ≠ .In := by decide) (h2 : op ≠ .NotIn := by decide) : behindInMarks op b = false := by
  have e1 : (op == CmpOp.In) = false := by cases op <;> first | rfl | exact absurd rfl h
  have e2 : (op == CmpOp.NotIn) = false := by cases op <;> first | rfl | exact absurd rfl h2
  cases b <;> simp [behindInMarks, e1, e2]
/-- a comparison as a value; hm: nomark b, or (for in, not in) by with_unfolding_all rfl -/
theorem pe_cmpR {op : CmpOp} {r : R2} (ho : OpR X (compareOp op) r) (ha : PE X a ta) (hb : PE X b tb) (hm : behindInMarks op b = false) : PE X (.Compare a [op] [b] pos) (tOp r ta tb) := by
  intro pins s σ H Q I h
  exact wpAny_Compare1 (binT ha hb I h fun v u s2 x y H2 I2 rx ry q => ho pins s2 σ H2 x y v u Q I2 rx ry q) hm
/-- a reading of a value as a test -/
def tTest (t : TE) : TT := fun σ H Q => t σ H fun x H' => ∃ k, x = .bl k ∧ Q k H'
theorem pt_cmpR {op : CmpOp} {r : R2} (ho : OpR X (compareOp op) r) (ha : PE X a ta) (hb : PE X b tb) (hm : behindInMarks op b = false) : PT X (.Compare a [op] [b] pos) (tTest (tOp r ta tb)) := by
  intro pins s σ H Q I h
  refine wpAny_isTrue_Compare1 (thn (ha pins s σ H _ I h) fun v s1 ⟨x, H1, I1, r1, q1⟩ => thn (hb pins s1 σ H1 _ I1 q1) fun u s2 ⟨y, H2, I2, r2, q2⟩ =>
    thn (ho pins s2 σ H2 x y v u _ I2 r1 r2 q2) fun c s3 ⟨z, H3, I3, r3, k, e, q3⟩ => ?_) hm
  subst e
  cases r3
  exact wpAny_truthy_bool ⟨H3, I3, q3⟩
/-- a op1 b op2 c -/
def tChain (r r' : R2) (ta tb tc : TE) : TE := fun σ H Q => ta σ H fun x H1 => tb σ H1 fun y H2 => r x y H2 fun z H3 => ∃ k, z = .bl k ∧
  (if k = true then tc σ H3 fun w' H4 => r' y w' H4 Q else Q (.bl false) H3)
theorem pe_chain {op op' : CmpOp} {r r' : R2} (ho : OpR X (compareOp op) r) (ho' : OpR X (compareOp op') r') (ha : PE X a ta) (hb : PE X b tb) (hc : PE X c tc)
    (hm : lastMarks [op, op'] [b, c] = false := by with_unfolding_all rfl) : PE X (.Compare a [op, op'] [b, c] pos) (tChain r r' ta tb tc) := by
  intro pins s σ H Q I h
  refine Compare_chain (thn (ha pins s σ H _ I h) fun v s1 ⟨x, H1, I1, r1, q1⟩ => chain_link (thn (hb pins s1 σ H1 _ I1 q1) fun u s2 ⟨y, H2, I2, r2, q2⟩ =>
    thn (ho pins s2 σ H2 x y v u _ I2 r1 r2 q2) fun d s3 ⟨z, H3, I3, r3, k, e, q3⟩ => ?_)) hm
  subst e
  cases r3
  refine wpAny_truthy_bool ?_
  cases k with
  | false => exact ite_ff ⟨.bl false, H3, I3, rfl, q3⟩
  | true => exact ite_tt (chain_last (thn (hc pins s3 σ H3 _ I3 q3) fun w' s4 ⟨z', H4, I4, r4, q4⟩ => ho' pins s4 σ H4 y z' u w' Q I4 r2 r4 q4))
theorem pt_chain {op op' : CmpOp} {r r' : R2} (ho : OpR X (compareOp op) r) (ho' : OpR X (compareOp op') r') (ha : PE X a ta) (hb : PE X b tb) (hc : PE X c tc)
    (hm : lastMarks [op, op'] [b, c] = false := by with_unfolding_all rfl) : PT X (.Compare a [op, op'] [b, c] pos) (tTest (tChain r r' ta tb tc)) := by
  intro pins s σ H Q I h
  refine isTrue_chain (thn (ha pins s σ H _ I h) fun v s1 ⟨x, H1, I1, r1, q1⟩ => test_link (thn (hb pins s1 σ H1 _ I1 q1) fun u s2 ⟨y, H2, I2, r2, q2⟩ =>
    thn (ho pins s2 σ H2 x y v u _ I2 r1 r2 q2) fun d s3 ⟨z, H3, I3, r3, k, e, q3⟩ => ?_)) hm
  subst e
  cases r3
  refine wpAny_truthy_bool ?_
  cases k with
  | false =>
    obtain ⟨k', e', q'⟩ := q3
    cases e'
    exact ite_ff ⟨H3, I3, q'⟩
  | true =>
    refine ite_tt (test_last (thn (hc pins s3 σ H3 _ I3 q3) fun w' s4 ⟨z', H4, I4, r4, q4⟩ => thn (ho' pins s4 σ H4 y z' u w' _ I4 r2 r4 q4) fun d' s5 ⟨z2, H5, I5, r5, k2, e2, q5⟩ => ?_))
    subst e2
    cases r5
    exact wpAny_truthy_bool ⟨H5, I5, q5⟩

/-! ### truth -/
/-- a value's truth by the abstract heap -/
def TruV (K : PySem.W.Frag) (x : V) (H : Hp) (k : Bool) : Prop :=
  match x with
  | .non => k = false
  | .bl b => k = b
  | .int i => k = (i != 0)
  | .str y => y.length ≤ sizeLine ∧ k = ((y.length : Int) != 0)
  | .byt y => y.size ≤ sizeLine ∧ k = ((y.size : Int) != 0)
  | .ref p => (∃ xs, SqL K H p xs ∧ k = !xs.isEmpty) ∨ (∃ xs, SqT K H p xs ∧ k = !xs.isEmpty) ∨ ∃ kvs, H p = some (.dK kvs) ∧ k = !kvs.isEmpty
  | _ => False
theorem isEmpty_kv {κ : Type} {kvs : List (κ × V)} {vs : List (κ × Value)} (r : KV kvs vs) : (!vs.isEmpty) = !kvs.isEmpty := by
  cases r <;> rfl
theorem isEmpty_of {xs : List V} {its : List Value} (r : Vals xs its) : (!its.toArray.isEmpty) = !xs.isEmpty := by
  cases r <;> simp
theorem line63 : (sizeLine : Nat) < 2 ^ 63 := by rw [sizeLine_eq]; decide
theorem tru_ok : TruR X (fun x H Q => ∃ k, TruV X.K x H k ∧ Q k H) := by
  intro pins s σ H x v Q I rx h
  obtain ⟨k, e, q⟩ := h
  have hl := line63
  have hs : sizeLine = 16777216 := sizeLine_eq
  cases x with
  | non =>
    cases rx
    have e' : k = false := e
    subst e'
    exact truthy_none ⟨H, I, q⟩
  | bl b =>
    cases rx
    have e' : k = b := e
    subst e'
    exact wpAny_truthy_bool ⟨H, I, q⟩
  | int i =>
    obtain ⟨t, rfl⟩ := rx
    have e' : k = (i != 0) := e
    subst e'
    exact PySem.P.truthy_int ⟨H, I, q⟩
  | str y =>
    obtain ⟨t, rfl⟩ := rx
    obtain ⟨hy, e'⟩ : y.length ≤ sizeLine ∧ k = ((y.length : Int) != 0) := e
    subst e'
    exact PySem.P.truthy_str (by omega) ⟨H, I.tok _, q⟩
  | byt y =>
    obtain ⟨t, rfl⟩ := rx
    obtain ⟨hy, e'⟩ : y.size ≤ sizeLine ∧ k = ((y.size : Int) != 0) := e
    subst e'
    exact PySem.W.truthy_bytes (by omega) ⟨H, I.tok _, q⟩
  | ref p =>
    cases rx
    have e' : (∃ xs, SqL X.K H p xs ∧ k = !xs.isEmpty) ∨ (∃ xs, SqT X.K H p xs ∧ k = !xs.isEmpty) ∨ ∃ kvs, H p = some (.dK kvs) ∧ k = !kvs.isEmpty := e
    rcases e' with ⟨xs, hx, e'⟩ | ⟨xs, hx, e'⟩ | ⟨kvs, hx, e'⟩
    · subst e'
      obtain ⟨its, r, pl, hz⟩ := I.list hx
      have hlen := r.length
      exact wpAny_truthy_list pl.isList (by simp only [List.size_toArray]; omega) ⟨H, I.tok _, by rw [isEmpty_of r]; exact q⟩
    · subst e'
      obtain ⟨its, r, pl, hz⟩ := I.tuple hx
      have hlen := r.length
      exact truthy_tuple pl (by simp only [List.size_toArray]; omega) ⟨H, I.tok _, by rw [isEmpty_of r]; exact q⟩
    · subst e'
      obtain ⟨hz, hS, vs, r, m⟩ : kvs.length ≤ sizeLine ∧ (p == sysModules) = false ∧ ∃ vs, KV kvs vs ∧ s.heap.DictOf (mixKind X.prog X.w) p vs := I.hok p _ hx
      have hlen : kvs.length = vs.length := Paired.length r
      exact wpAny_truthy_dict hS m (by omega) ⟨H, I.tok _, by rw [isEmpty_kv r]; exact q⟩
  | _ => exact (show False from e).elim
/-- any expression whose test is its value's truth (a name, a call, a subscript, a field ..: he by fun _ => rfl) -/
theorem pt_truth (ha : PE X a ta) (he : ∀ whole, isTrue a X.env whole = (do let v ← whole; standAt a.pos; holding [v] (truthy v))) :
    PT X a (fun σ H Q => ta σ H fun x H' => ∃ k, TruV X.K x H' k ∧ Q k H') := by
  intro pins s σ H Q I h
  exact isTrue_plain (thn (ha pins s σ H _ I h) fun v s1 ⟨x, H1, I1, r1, q1⟩ => tru_ok pins s1 σ H1 x v Q I1 r1 q1) (he _)

theorem op_add_str : OpR X (binaryOp .Add) (fun x y H Q => ∃ i j, x = .str i ∧ y = .str j ∧ i.length + j.length ≤ sizeLine ∧ Q (.str (i ++ j)) H) := by
  intro pins s σ H x y v u Q I rx ry h
  obtain ⟨i, j, rfl, rfl, hz, q⟩ := h
  obtain ⟨t, rfl⟩ := rx
  obtain ⟨t', rfl⟩ := ry
  exact add_str (fun t' tk => ⟨.str (i ++ j), H, I.tok _, ⟨_, rfl⟩, q⟩) hz
/-! ### scalar builtins, by CallR -/
theorem vals1 {x : V} {us : List Value} (r : Vals [x] us) : ∃ u, us = [u] ∧ RelV x u := by
  cases r with
  | cons r1 r2 => cases r2; exact ⟨_, rfl, r1⟩
theorem vals2 {x y : V} {us : List Value} (r : Vals [x, y] us) : ∃ u w', us = [u, w'] ∧ RelV x u ∧ RelV y w' := by
  cases r with
  | cons r1 r2 =>
    cases r2 with
    | cons r3 r4 => cases r4; exact ⟨_, _, rfl, r1, r3⟩
theorem call_int1 : CallR X (.type "int") (fun xs H Q => (∃ i, xs = [.int i] ∧ Q (.int i) H) ∨ ∃ k, xs = [.bl k] ∧ Q (.int (if k then 1 else 0)) H) := by
  intro pins s σ H xs us Q I r h
  rcases h with ⟨i, rfl, q⟩ | ⟨k, rfl, q⟩
  · obtain ⟨u, rfl, t, rfl⟩ := vals1 r
    exact call_int_int ⟨.int i, H, I, ⟨_, rfl⟩, q⟩
  · obtain ⟨u, rfl, r1⟩ := vals1 r
    cases r1
    exact call_int_bool ⟨.int (if k then 1 else 0), H, I.tok _, ⟨_, rfl⟩, q⟩
end
end L2

namespace L2
open PySem PySem.Spec PyProof.Rows

/-! ### an instance, its attributes a map -/
structure ObjM (h : Heap) (x dx C : Addr) (mA : Str → Option Value) : Prop where
  obj : h.get? x = some (PySem.W.instObj C dx)
  ns : h.Ns1 dx mA
  ne : dx ≠ x

theorem lookIn_ns {h : Heap} {dx : Addr} {mA : Str → Option Value} (n : h.Ns1 dx mA) : ∃ od, h.get? dx = some od ∧ ∀ name, PySem.W.lookIn name od = some (mA name) := by
  obtain ⟨o, es, ep, ho, hd, hk, _, hm⟩ := n
  refine ⟨o, ho, fun name => ?_⟩
  have e := hm name
  unfold nsFind findBy at e
  rw [← Array.find?_toList] at e
  unfold PySem.W.lookIn
  rw [hd]
  dsimp only
  split
  · rename_i y q
    rw [q] at e
    exact congrArg some e
  · rename_i q
    rw [q] at e
    have a : es.toList.any (·.refKey) = false := by
      rw [List.any_eq_false]
      intro y hy
      obtain ⟨z, t, hkey⟩ := hk y (Array.mem_toList_iff.mp hy)
      simp [DictEntry.refKey, hkey]
    have a' : ¬ es.toList.any (·.refKey) = true := by rw [a]; exact Bool.false_ne_true
    rw [if_neg a']
    exact congrArg some e

theorem ObjM.look {h : Heap} {x dx C : Addr} {mA : Str → Option Value} (I : ObjM h x dx C mA) : ∃ od, PySem.W.InstAt h x (PySem.W.instObj C dx) C (some od) ∧ ∀ name, PySem.W.lookIn name od = some (mA name) :=
  let ⟨od, ho, hl⟩ := lookIn_ns I.ns
  ⟨od, ⟨I.obj, rfl, rfl, ho⟩, hl⟩

section
variable {prog : Program} {w : World} {A : Around} {E : Value → Shared → Prop} {s : Shared} {K : PySem.W.Frag} {x dx C f : Addr} {mA : Str → Option Value} {name : Str} {v : Value}

end

section
variable {P : Program} {w : World} {H H' : Hp} {h h' : Heap} {a C dx : Addr} {fs fs' : List (Str × V)}
end

/-! ### what of the text a class must have -/
structure Cls (K : PySem.W.Frag) (C : Addr) : Prop where
  pg : PySem.W.plainGet K C Str.empty = true
  hd : PySem.W.hasDictIn K C = true
  po : PySem.W.plainOver K C = true
  sa : PySem.W.findIn K (.ref C) "__setattr__" = some (some (.builtin "object.__setattr__"))
theorem Cls.get {K : PySem.W.Frag} {C : Addr} (c : Cls K C) (f : Str) : PySem.W.plainGet K C f = true := c.pg
section
variable {X : Cx} {pins : List (Addr × Obj)} {σ : St} {H : Hp} {s : Shared} {a C dx : Addr} {fs : List (Str × V)} {f : Str} {v : V} {A : Around} {E : Value → Shared → Prop}

/-- a new instance, tracked, without attributes -/
theorem Inv.made (I : Inv X pins σ H s) : Inv X pins σ (upd (upd H s.heap.objs.size (.own (s.heap.objs.size + 1))) (s.heap.objs.size + 1) (.ins C s.heap.objs.size []))
    { s with heap := (s.heap.push PySem.W.emptyDict).push (PySem.W.instObj C s.heap.objs.size) } := by
  have e1 : (s.heap.push PySem.W.emptyDict).get? s.heap.objs.size = some PySem.W.emptyDict := Heap.get?_push_size s.heap rfl
  have e2 : ((s.heap.push PySem.W.emptyDict).push (PySem.W.instObj C s.heap.objs.size)).get? (s.heap.objs.size + 1) = some (PySem.W.instObj C s.heap.objs.size) := by
    have := Heap.get?_push_size (s.heap.push PySem.W.emptyDict) (o := PySem.W.instObj C s.heap.objs.size) rfl
    rwa [Heap.size_push] at this
  have e3 : (s.heap.push PySem.W.emptyDict).Ns s.heap.objs.size (fun _ => none) := ⟨PySem.W.emptyDict, #[], _, e1, rfl, (fun e he => absurd he (by simp)), fun _ => rfl⟩
  have I1 := I.laid (a := s.heap.objs.size) (o := .own (s.heap.objs.size + 1)) (h' := s.heap.push PySem.W.emptyDict) (t' := s.toks) (fun b u q => Heap.get?_push_of_some _ q) (Nat.le_refl _) ⟨_, e1⟩
  refine I1.laid (a := s.heap.objs.size + 1) (o := .ins C s.heap.objs.size []) (t' := s.toks) (fun b u q => Heap.get?_push_of_some _ q) (Nat.le_of_eq (Heap.size_push _ _)) ?_
  have ne : s.heap.objs.size ≠ s.heap.objs.size + 1 := Nat.ne_of_lt (Nat.lt_succ_self _)
  refine ⟨by rw [upd_ne ne, upd_same], Nat.zero_le _, ne, e2, fun _ => none, (Heap.Ns1.of_empty e3).at fun o q => Heap.get?_push_of_some _ q, fun _ => True.intro, fun y hy => absurd rfl hy⟩

end

section
variable {X : Cx} {o e value : Expr} {f : Str} {pos pos' tpos : Pos} {ta tv : TE}
end

/-! ### isinstance -/
section
variable {X : Cx} {pins : List (Addr × Obj)} {σ : St} {H : Hp} {s : Shared} {A : Around} {E : Value → Shared → Prop} {Q : Value → Shared → Prop} {c : Value} {b : Bool}
end
end L2

namespace L2
open PySem PySem.Spec PyProof.Rows

/-! ### room -/
structure Room (k : Nat) (A : Around) : Prop where
  hd : A.handled = none
  dp : A.depth + 3 * k + 5 < recursionLimit
  un : A.units + 16 * k + 200 < cLine
theorem Room.mono {j k : Nat} {A : Around} (r : Room k A) (h : j ≤ k) : Room j A := ⟨r.hd, by have := r.dp; omega, by have := r.un; omega⟩
theorem Room.deeper {k : Nat} {A : Around} (r : Room (k + 1) A) (env : Env) : Room k (A.deeper env) :=
  ⟨r.hd, by have := r.dp; show A.depth + 1 + 3 * k + 5 < _; omega, by have := r.un; show A.units + 3 + 16 * k + 200 < _; omega⟩
theorem Room.in1 {k : Nat} {A : Around} (r : Room (k + 1) A) : Room k A.in1 :=
  ⟨r.hd, by have := r.dp; show A.depth + 3 * k + 5 < _; omega, by have := r.un; show A.units + 1 + 16 * k + 200 < _; omega⟩
theorem Room.depth {k : Nat} {A : Around} (r : Room k A) : A.depth < recursionLimit := by have := r.dp; omega
theorem Room.units {k : Nat} {A : Around} (r : Room k A) : A.units + 64 < cLine := by have := r.un; omega
/-! ### argument lists and displays -/
def tNil : TA := fun _ H Q => Q [] H
def tCons (ta : TE) (tr : TA) : TA := fun σ H Q => ta σ H fun x H1 => tr σ H1 fun xs H2 => Q (x :: xs) H2
section
variable {X : Cx} {e : Expr} {es : List Expr} {te : TE} {t : TA} {pos : Pos}
theorem pa_nil : PA X [] tNil := fun _ _ _ _ H Q I h => Calls.spliced_nil ⟨[], H, I, .nil, h⟩
theorem pa_cons (ha : PE X e te) (hr : PA X es t) (hs : starEach (e :: es) X.env = (false, eval e X.env) :: starEach es X.env := by rfl) : PA X (e :: es) (tCons te t) := by
  intro pos pins s σ H Q I h
  rw [hs]
  show wpAny _ _ (spliced ((false, eval e X.env) :: backTo pos (starEach es X.env))) _ _ s
  refine Calls.spliced_cons (thn (ha pins s σ H _ I h) fun u s1 ⟨x, H1, I1, r1, q1⟩ => ?_)
  exact thn (hr pos pins s1 σ H1 _ I1 q1) fun us s2 ⟨xs, H2, I2, r2, q2⟩ => ⟨x :: xs, H2, I2, .cons r1 r2, q2⟩

/-- a tuple, a list of written items -/
def tTup (t : TA) : TE := fun σ H Q => t σ H fun xs H1 => xs.length ≤ sizeLine ∧ ∀ p, H1 p = none → Q (.ref p) (upd H1 p (.tup xs))
def tLst (t : TA) : TE := fun σ H Q => t σ H fun xs H1 => xs.length ≤ sizeLine ∧ ∀ p, H1 p = none → Q (.ref p) (upd H1 p (.lst xs))
theorem pe_tup {x1} (h : PA X es t) : PE X (.Tuple es x1 pos) (tTup t) := by
  intro pins s σ H Q I hq
  refine wpAny_Tuple_spliced (thn (h pos pins s σ H _ I hq) fun us s1 ⟨xs, H1, I1, r, z, q⟩ => ⟨by rw [← r.length]; exact z, ?_⟩)
  have hf : H1 s1.heap.objs.size = none := I1.hok.fresh (Nat.le_refl _)
  refine ⟨.ref s1.heap.objs.size, upd H1 s1.heap.objs.size (.tup xs), I1.laid (t' := s1.toks) (fun b u e => Heap.get?_push_of_some _ e) (Nat.le_refl _) ?_, rfl, q _ hf⟩
  exact ⟨z, us, r, ⟨_, Heap.get?_push_size _ rfl, rfl, _, rfl, rfl⟩⟩
theorem pe_lst (h : PA X es t) : PE X (.List es pos) (tLst t) := by
  intro pins s σ H Q I hq
  refine wpAny_List_spliced (thn (h pos pins s σ H _ I hq) fun us s1 ⟨xs, H1, I1, r, z, q⟩ => ⟨by rw [← r.length]; exact z, ?_⟩)
  have hf : H1 s1.heap.objs.size = none := I1.hok.fresh (Nat.le_refl _)
  refine ⟨.ref s1.heap.objs.size, upd H1 s1.heap.objs.size (.lst xs), I1.laid (t' := s1.toks) (fun b u e => Heap.get?_push_of_some _ e) (Nat.le_refl _) ?_, rfl, q _ hf⟩
  exact ⟨z, us, 0, r, Heap.get?_push_size _ rfl⟩
end

/-! ### what a def promises -/
/-- a def's promise: the bound arguments in the parameters' order, the heap, the wanted end, the wanted exception -/
abbrev Sp := List V → Hp → VK → XK → Prop
/-- how an exception lies behind a call (file 08 gives it): the callers' frames, abstract heap and state ahead of the call, the wish, the exception, the state -/
abbrev CXT := List Env → Hp → Shared → XK → Value → Shared → Prop

/-- the state at a call -/
structure Env0 (P : Program) (w : World) (K : PySem.W.Frag) (mg : Str → Option Value) (base : Heap) (A : Around) (outer : List Env) (s : Shared) (H : Hp) : Prop where
  frames : A.frames = some outer
  mod : Mod K mg base
  bs : ∀ b o, base.get? b = some o → s.heap.get? b = some o ∧ H b = none
  bsz : base.objs.size ≤ s.heap.objs.size
  funs : s.heap.FunFrames base outer
  frf : ∀ b ∈ frs outer, H b = none
  hok : HOk P w H s.heap
  bare : AllBare s.gens
/-- a call's end -/
def CE (outer : List Env) (P : Program) (w : World) (H : Hp) (s : Shared) (Q : VK) (u : Value) (s' : Shared) : Prop :=
  ∃ v H', s'.os = s.os ∧ AllBare s'.gens ∧ Un (frs outer) [] H H' s.heap s'.heap ∧ HOk P w H' s'.heap ∧ RelV v u ∧ Q v H'
def CR (CX : CXT) (outer : List Env) (P : Program) (w : World) (H : Hp) (s : Shared) (Q : VK) (E : XK) (r : Result) (s' : Shared) : Prop :=
  match r with
  | .ok (.ret u) => CE outer P w H s Q u s'
  | .ok _ => False
  | .error e => CX outer H s E e s'
structure FnOk (P : Program) (w : World) (K : PySem.W.Frag) (mg : Str → Option Value) (base : Heap) (CX : CXT) (k : Nat) (f : Addr) (fd : FuncData) (ps : List Str) (sp : Sp) : Prop where
  len : ∀ vs H Q E, sp vs H Q E → vs.length = ps.length
  run : ∀ (A : Around) (outer : List Env) (s : Shared) (H : Hp) (args : Args) (us : List Value) (vs : List V) (Q : VK) (E : XK), Room k A → Env0 P w K mg base A outer s H → BindsTo s fd args (ps.zip us) → Vals vs us → sp vs H Q E →
    codeAny (model P w) A (.call (.ref f) args) (CR CX outer P w H s Q E) s
theorem FnOk.mono {P : Program} {w : World} {K : PySem.W.Frag} {mg : Str → Option Value} {base : Heap} {CX : CXT} {j k : Nat} {f : Addr} {fd : FuncData} {ps : List Str} {sp : Sp} (F : FnOk P w K mg base CX j f fd ps sp) (h : j ≤ k) :
    FnOk P w K mg base CX k f fd ps sp := ⟨F.len, fun A outer s H args us vs Q E hr => F.run A outer s H args us vs Q E (hr.mono h)⟩
theorem Env0.in1 {P : Program} {w : World} {K : PySem.W.Frag} {mg : Str → Option Value} {base : Heap} {A : Around} {outer : List Env} {s : Shared} {H : Hp} (e : Env0 P w K mg base A outer s H) :
    Env0 P w K mg base A.in1 outer s H := ⟨e.frames, e.mod, e.bs, e.bsz, e.funs, e.frf, e.hok, e.bare⟩

section
variable {X : Cx} {pins : List (Addr × Obj)} {σ : St} {H : Hp} {s s' : Shared}
/-- from a body: what a callee wants -/
theorem Inv.env0 (I : Inv X pins σ H s) : Env0 X.prog X.w X.K X.mg X.base X.A X.stack s H :=
  ⟨I.ok.frames, I.ok.mod, I.bs, Nat.le_trans I.ok.bsz I.sz, I.stack, I.stkFree, I.hok, I.bare⟩
/-- behind a call -/
theorem Inv.after {Q : VK} {u : Value} (I : Inv X pins σ H s) (h : CE X.stack X.prog X.w H s Q u s') : EP X pins σ Q u s' := by
  obtain ⟨v, H', os, bare, un, hok, r, q⟩ := h
  obtain ⟨hh, g, d, t, os'⟩ := s'
  obtain rfl : os' = s.os := os
  exact ⟨v, H', I.call (h' := hh) (g' := g) (d' := d) (t' := t) (ch := []) un hok bare (fun b z => absurd z (by simp)), r, q⟩
end

/-! ### calls -/
/-- f(..): the written arguments, then the defaults dvs; E: what is wanted of an exception -/
def tCall (sp : Sp) (dvs : List V) (E : XK) (t : TA) : TE := fun σ H Q => t σ H fun vs H1 => sp (vs ++ dvs) H1 Q E
/-- how the parameters are bound: us the positional arguments, kw the keywords' values by name, ds the defaults that fill up -/
def Binds (K : PySem.W.Frag) (fd : FuncData) (ps : List Str) (ds : List Value) : Prop :=
  ∀ (s : Shared) (us : List Value), K.In s.heap → (us ++ ds).length = ps.length → BindsTo s fd ⟨us, []⟩ (ps.zip (us ++ ds))
/-- every parameter is given -/
theorem Binds.all {K : PySem.W.Frag} {fd : FuncData} {ps : List Str} (h : ∀ us : List Value, us.length = ps.length → bindArgs fd ⟨us, []⟩ = pure (ps.zip us)) : Binds K fd ps [] := fun s us _ hl => by
  rw [List.append_nil] at hl ⊢
  exact .of_eq (h us hl)

/-- an exception of a callee reaches what this body wants of exceptions -/
def Passes (CX : CXT) (X : Cx) (E : XK) : Prop := ∀ (pins : List (Addr × Obj)) (σ : St) (H : Hp) (s : Shared) (e : Value) (s' : Shared), Inv X pins σ H s → CX X.stack H s E e s' → X.xe e s'

section
variable {X : Cx} {CX : CXT} {k : Nat} {f C : Addr} {fd : FuncData} {ps : List Str} {sp : Sp} {dvs : List V} {ds : List Value} {E : XK} {x m : Str} {p pos apos : Pos} {e o : Expr} {es : List Expr} {ta : TE} {t : TA}

/-- the callee runs -/
theorem run_fn {pins : List (Addr × Obj)} {σ : St} {H : Hp} {s : Shared} {Q : VK} {us : List Value} {vs : List V} (F : FnOk X.prog X.w X.K X.mg X.base CX k f fd ps sp) (hr : Room k X.A) (hb : Binds X.K fd ps ds) (hd : Vals dvs ds) (hx : Passes CX X E)
    (I : Inv X pins σ H s) (r : Vals vs us) (h : sp (vs ++ dvs) H Q E) : wpAny (model X.prog X.w) X.A (call (.ref f) us) (EP X pins σ Q) X.xe s := by
  have r2 : Vals (vs ++ dvs) (us ++ ds) := r.append hd
  have hl : (us ++ ds).length = ps.length := by rw [← r2.length]; exact F.len _ _ _ _ h
  refine wpAny_call (codeAny_mono (F.run X.A X.stack s H ⟨us, []⟩ (us ++ ds) (vs ++ dvs) Q E hr I.env0 (hb s us I.kIn hl) r2 h) fun r s' hq => ?_)
  cases r with
  | error e => exact hx pins σ H s e s' I hq
  | ok fl =>
    cases fl with
    | ret u => exact I.after hq
    | next => exact False.elim hq
    | brk => exact False.elim hq
    | cont => exact False.elim hq

theorem pe_call (F : FnOk X.prog X.w X.K X.mg X.base CX k f fd ps sp) (hr : Room k X.A) (hg : Gl X x) (hm : X.mg x = some (.ref f)) (hk : PySem.W.keepIn X.K (.ref f) = true) (hb : Binds X.K fd ps ds) (hd : Vals dvs ds) (hx : Passes CX X E)
    (ha : PA X (e :: es) t) (hdb : (x == ("__debug__" : Str)) = false := by decide) (he : starEach (e :: es) X.env = (false, eval e X.env) :: starEach es X.env := by rfl) (hpl : (backTo pos (starEach es X.env)).any (·.1) = false := by rfl) :
    PE X (.Call (.Name x p) (e :: es) [] pos) (tCall sp dvs E t) := by
  intro pins s σ H Q I h
  refine wpAny_Call_Name_kw (ld_glob I hg hm ?_ hdb)
  refine PySem.W.callWith_K (h₀ := X.base) I.ok.mod.kin hk (thn (ha pos pins s σ H _ I h) fun us s1 ⟨vs, H1, I1, r, q⟩ => ⟨I1.kIn, ?_⟩) he hpl
  exact run_fn F hr hb hd hx I1 r q
end

section
variable {X : Cx} {CX : CXT} {k : Nat} {f C : Addr} {fd : FuncData} {ps ks : List Str} {sp : Sp} {E : XK} {x m : Str} {p pos apos kpos : Pos} {e o : Expr} {es : List Expr} {kws : List Keyword} {te ta : TE} {t tk : TA} {nm : Option Str}
variable {g : List Value → List Value → List Value} {gV : List V → List V → List V}
end

/-! ### a def's body keeps its promise -/
/-- names: the parameters first -/
structure FnScope (N P : List Str) (sc : Scope) : Prop where
  kind : sc.kind = .function
  co : sc.isCoroutine = false
  gen : sc.isGenerator = false
  nd : N.Nodup
  pre : N.take P.length = P
  par : ∀ x ∈ P, sc.names.lookup x = some .local ∨ sc.names.lookup x = some .cell
  nofree : ∀ y ∈ sc.names, y.2 ≠ .free

theorem bindL_out {kindOf : Str → Option NameKind} {x : Str} : ∀ {binds : List (Str × Value)} {m : Str → Option Value}, (∀ v, (x, v) ∉ binds) → bindL kindOf binds m x = m x
  | [], _, _ => rfl
  | (n, v) :: r, m, h => by
    unfold bindL
    rw [bindL_out fun w hw => h w (List.mem_cons_of_mem _ hw)]
    split
    · have : x ≠ n := by rintro rfl; exact h v List.mem_cons_self
      simp [this]
    · rfl
theorem bindC_out {kindOf : Str → Option NameKind} {x : Str} : ∀ {binds : List (Str × Value)} {m : Str → Option Value}, (∀ v, (x, v) ∉ binds) → bindC kindOf binds m x = m x
  | [], _, _ => rfl
  | (n, v) :: r, m, h => by
    unfold bindC
    rw [bindC_out fun w hw => h w (List.mem_cons_of_mem _ hw)]
    split
    · rfl
    · have : x ≠ n := by rintro rfl; exact h v List.mem_cons_self
      simp [this]
theorem bindL_get {kindOf : Str → Option NameKind} {x : Str} {v : Value} : ∀ {P : List Str} {vs : List Value} {i : Nat} {m : Str → Option Value}, P.Nodup → P[i]? = some x → vs[i]? = some v → kindOf x = some .local →
    bindL kindOf (P.zip vs) m x = some v
  | [], _, _, _, _, h, _, _ => by simp at h
  | _ :: _, [], _, _, _, _, h, _ => by simp at h
  | p :: P, w :: vs, 0, m, nd, h1, h2, hk => by
    simp at h1 h2; subst h1; subst h2
    show bindL kindOf ((p, w) :: P.zip vs) m p = _
    unfold bindL
    rw [bindL_out fun v hv => (List.nodup_cons.mp nd).1 (List.of_mem_zip hv).1, if_pos hk]
    simp
  | p :: P, w :: vs, i + 1, m, nd, h1, h2, hk => by
    show bindL kindOf ((p, w) :: P.zip vs) m x = _
    unfold bindL
    exact bindL_get (i := i) (List.nodup_cons.mp nd).2 (by simpa using h1) (by simpa using h2) hk
theorem bindC_get {kindOf : Str → Option NameKind} {x : Str} {v : Value} : ∀ {P : List Str} {vs : List Value} {i : Nat} {m : Str → Option Value}, P.Nodup → P[i]? = some x → vs[i]? = some v → kindOf x ≠ some .local →
    bindC kindOf (P.zip vs) m x = some v
  | [], _, _, _, _, h, _, _ => by simp at h
  | _ :: _, [], _, _, _, _, h, _ => by simp at h
  | p :: P, w :: vs, 0, m, nd, h1, h2, hk => by
    simp at h1 h2; subst h1; subst h2
    show bindC kindOf ((p, w) :: P.zip vs) m p = _
    unfold bindC
    rw [bindC_out fun v hv => (List.nodup_cons.mp nd).1 (List.of_mem_zip hv).1, if_neg hk]
    simp
  | p :: P, w :: vs, i + 1, m, nd, h1, h2, hk => by
    show bindC kindOf ((p, w) :: P.zip vs) m x = _
    unfold bindC
    exact bindC_get (i := i) (List.nodup_cons.mp nd).2 (by simpa using h1) (by simpa using h2) hk

/-- the names' values at the entry -/
def start (N : List Str) (vs : List V) : St := vs.map some ++ List.replicate (N.length - vs.length) none

/-- the context of a def's body, at its entry; an exception leaves the frame, then lies as CX says -/
def cxOf (CX : CXT) (P : Program) (w : World) (K : PySem.W.Frag) (mg : Str → Option Value) (base : Heap) (N : List Str) (qual : Str) (scope : Scope) (f : Addr) (cd : Value) (A : Around) (outer : List Env) (s : Shared) (H : Hp) (E : XK) : Cx where
  prog := P
  w := w
  K := K
  mg := mg
  base := base
  A := A.deeper (envOfC qual scope s.heap.objs.size f cd)
  N := N
  s₀ := s
  H₀ := H
  env := envOfC qual scope s.heap.objs.size f cd
  outer := outer
  stack := envOfC qual scope s.heap.objs.size f cd :: outer
  ex := []
  calm := true
  fn := fun _ => true
  pn := []
  xe := fun e s' => wpAny (model P w) (A.deeper (envOfC qual scope s.heap.objs.size f cd)) (leaving (envOfC qual scope s.heap.objs.size f cd) e) (fun _ s'' => CX outer H s E e s'') (fun e' s'' => CX outer H s E e' s'') s'

theorem cell_has {sc : Scope} {n : Nat} {x : Str} (h : sc.names.lookup x = some .cell) : ∃ c, (cellsFrom n sc.names []).lookup x = some c := by
  have q := PySem.W.cellsFrom_some sc.names n [] (.inl h)
  exact Option.isSome_iff_exists.mp q

theorem inv_start {CX : CXT} {P : Program} {w : World} {K : PySem.W.Frag} {mg : Str → Option Value} {base : Heap} {N ps : List Str} {qual : Str} {scope : Scope} {f : Addr} {cd : Value} {A : Around} {outer : List Env} {s s1 : Shared} {H : Hp} {E : XK} {us : List Value} {vs : List V}
    (S : FnScope N ps scope) (hd : A.handled = none) (e0 : Env0 P w K mg base A outer s H) (hl : vs.length = ps.length) (r : Vals vs us)
    (x : InCallC s s.heap.objs.size (bindL (envOfC qual scope s.heap.objs.size f cd).kindOf (ps.zip us) fun _ => none) (cellsFrom (s.heap.objs.size + 1) scope.names []) (bindC (envOfC qual scope s.heap.objs.size f cd).kindOf (ps.zip us) fun _ => none) s1) :
    Inv (cxOf CX P w K mg base N qual scope f cd A outer s H E) [] (start N vs) H s1 := by
  have hpl : ps.length ≤ N.length := by have := congrArg List.length S.pre; rw [List.length_take] at this; omega
  obtain ⟨h1, tk, rfl, hk⟩ := x.done
  have noA : ∀ b : Addr, b ∉ (cxOf CX P w K mg base N qual scope f cd A outer s H E).ex := fun b z => absurd (show b ∈ ([] : List Addr) from z) (by simp)
  refine ⟨⟨e0.mod, S.kind, rfl, rfl, Nat.le_refl _, fun y z c h1 h2 => ?_, fun y hy => ?_, fun y c _ h => ?_, fun _ => hd, Around.frames_deeper e0.frames, .inr ⟨rfl, rfl⟩, fun b z => absurd z (noA b), e0.bs, e0.bsz, fun b _ _ => noA b, fun b z => absurd z (noA b), e0.funs, e0.frf⟩,
    rfl, e0.bare, Un.kept hk, ⟨_, x.toInCall.ns, fun i y v h1 h2 h3 => ?_⟩, fun y c h => ⟨_, x.cell y c h⟩, e0.hok.fresh (Nat.le_refl _), fun y c h => ?_, fun p hp => absurd (show p ∈ ([] : List (Addr × Obj)) from hp) (by simp), e0.hok.kept hk, ?_⟩
  · exact name_of_addr x.apart (PySem.mem_of_lookup h1) (PySem.mem_of_lookup h2)
  · have hy : scope.names.lookup y = some .cell ∨ scope.names.lookup y = some .free := hy
    rcases hy with hy | hy
    · exact cell_has hy
    · exact absurd rfl (S.nofree _ (PySem.mem_of_lookup hy))
  · exact Nat.le_of_lt (x.above y c (PySem.mem_of_lookup h))
  · have hi : i < vs.length := by
      unfold start at h2
      by_cases hi : i < vs.length
      · exact hi
      · rw [List.getElem?_append_right (by simpa using hi)] at h2
        rw [List.getElem?_replicate] at h2
        split at h2 <;> cases h2
    have ha : vs[i]? = some v := by
      unfold start at h2
      rw [List.getElem?_append_left (by simpa using hi), List.getElem?_map] at h2
      cases e : vs[i]? with
      | none => rw [e] at h2; cases h2
      | some a => rw [e] at h2; cases h2; rfl
    obtain ⟨u, hu, rv⟩ := r.get ha
    have hp : ps[i]? = some y := by
      rw [← S.pre, List.getElem?_take_of_lt (by omega)]; exact h1
    have ndP : ps.Nodup := by rw [← S.pre]; exact S.nd.sublist (List.take_sublist _ _)
    refine ⟨u, rv, ?_⟩
    rcases S.par y (List.mem_of_getElem? hp) with k | k
    · exact .inl ⟨k, bindL_get ndP hp hu k⟩
    · obtain ⟨c, e⟩ := cell_has (n := s.heap.objs.size + 1) k
      refine .inr ⟨.inl k, c, e, ?_⟩
      have q := x.cell y c e
      rw [bindC_get ndP hp hu (by show scope.names.lookup y ≠ _; rw [k]; decide)] at q
      exact q
  · exact e0.hok.fresh (Nat.le_of_lt (x.above y c (PySem.mem_of_lookup h)))
  · unfold start
    show _ = N.length
    rw [List.length_append, List.length_map, List.length_replicate]
    omega

/-- THE RULE: a def (or a method) of the text, by its body. The body's reading t is chosen for each entry; it is run at the parameters' values -/
theorem fn_of {CX : CXT} {P : Program} {w : World} {K : PySem.W.Frag} {mg : Str → Option Value} {base : Heap} {k : Nat} {f : Addr} {name qual : Str} {params : Arguments} {body : List Stmt} {scope : Scope} {dV kV doc pm cdv ct oc : Value} {an od : Option Addr}
    {osl : Array (Option Value)} {N ps : List Str} {sp : Sp} (lk : K.lookup f = some ⟨oc, od, .func (PySem.W.fnOf name qual params body scope dV kV doc pm an cdv ct), osl⟩) (hcd : PySem.W.codeIn K cdv qual = true) (S : FnScope N ps scope)
    (len : ∀ vs H Q E, sp vs H Q E → vs.length = ps.length)
    (hbody : ∀ (A : Around) (outer : List Env) (s : Shared) (H : Hp) (vs : List V) (Q : VK) (E : XK), Room k (A.deeper (envOfC qual scope s.heap.objs.size f cdv)) → sp vs H Q E →
      ∃ t, PSs (cxOf CX P w K mg base N qual scope f cdv A outer s H E) body t ∧ t { nx := fun _ H' => Q .non H', rt := Q } (start N vs) H) :
    FnOk P w K mg base CX (k + 1) f (PySem.W.fnOf name qual params body scope dV kV doc pm an cdv ct) ps sp := by
  refine ⟨len, fun A outer s H args us vs Q E hr e0 hb r hsp => ?_⟩
  have hl := len _ _ _ _ hsp
  have KX : K.In s.heap := e0.mod.kin.keeps fun b o e => (e0.bs b o e).1
  have lim : s.heap.NoLimit := e0.mod.nolimit.keeps fun b o e => (e0.bs b o e).1
  have hkind : ∀ y ∈ ps.zip us, scope.names.lookup y.1 = some .local ∨ (scope.names.lookup y.1 = some .cell ∧ ((cellsFrom (s.heap.objs.size + 1) scope.names []).lookup y.1).isSome = true) := fun ⟨n, v⟩ hy => by
    rcases S.par n (List.of_mem_zip hy).1 with q | q
    · exact .inl q
    · exact .inr ⟨q, PySem.W.cellsFrom_some _ _ _ (.inl q)⟩
  refine codeAny_call_function hr.depth (KX _ _ lk) rfl S.co S.gen rfl (PySem.W.codeRec_of KX hcd) (hb _ _ _ _ ?_)
  refine wpAny_newFunctionEnv_cells S.kind hkind fun env he s1 x => ?_
  subst he
  refine ⟨lim.keeps x.toInCall.keep, codeAny_func ?_⟩
  obtain ⟨t, ht, hq⟩ := hbody A outer s H vs Q E (hr.deeper _) hsp
  have I : Inv (cxOf CX P w K mg base N qual scope f cdv A outer s H E) [] (start N vs) H s1 := inv_start S hr.hd e0 hl r x
  refine wpAny_mono (ht [] s1 (start N vs) H _ I hq) (fun fl s' hs => ?_) fun e s' hs => hs
  have fin : ∀ {σ' : St} {H' : Hp} {v : V} {u : Value}, Inv (cxOf CX P w K mg base N qual scope f cdv A outer s H E) [] σ' H' s' → RelV v u → Q v H' → CE outer P w H s Q u s' :=
    fun {σ' H' v u} J rv q => ⟨v, H', J.os, J.bare, J.base, J.hok, rv, q⟩
  cases fl with
  | ret u =>
    obtain ⟨v, σ', H', J, rv, q⟩ := hs
    exact fin J rv q
  | next =>
    obtain ⟨σ', H', J, q⟩ := hs
    exact fin (v := V.non) (u := Value.none) J rfl q
  | brk =>
    obtain ⟨_, _, _, q⟩ := hs
    exact False.elim q
  | cont =>
    obtain ⟨_, _, _, q⟩ := hs
    exact False.elim q
end L2

namespace L2
open PySem PySem.Spec PyProof.Rows
section
variable {X : Cx} {x : Str} {p pos : Pos} {e : Expr} {es : List Expr} {t : TA} {id T : String} {r : List V → Hp → VK → Prop}

def tCB (r : List V → Hp → VK → Prop) (t : TA) : TE := fun σ H Q => t σ H fun vs H1 => r vs H1 Q
/-- f(e, ..), f a built-in function -/
theorem pe_callB (hc : CallR X (.builtin id) r) (hg : Gl X x) (hm : X.mg x = none) (hv : bootBuiltins x = some (.builtin id)) (ha : PA X (e :: es) t) (hn : x ≠ "__name__" := by decide) (hdb : (x == ("__debug__" : Str)) = false := by decide)
    (he : starEach (e :: es) X.env = (false, eval e X.env) :: starEach es X.env := by rfl) (hpl : (backTo pos (starEach es X.env)).any (·.1) = false := by rfl) : PE X (.Call (.Name x p) (e :: es) [] pos) (tCB r t) := by
  intro pins s σ H Q I h
  refine wpAny_Call_Name_kw (ld_blt I hg hm hv ?_ hn hdb)
  exact PyProof.Rows.callWith_builtin1 (thn (ha pos pins s σ H _ I h) fun us s1 ⟨vs, H1, I1, r1, q1⟩ => hc pins s1 σ H1 vs us Q I1 r1 q1) he hpl
/-- T(e, ..), T a built-in type -/
theorem pe_callTy (hc : CallR X (.type T) r) (hg : Gl X x) (hm : X.mg x = none) (hv : bootBuiltins x = some (.type T)) (ha : PA X (e :: es) t) (hn : x ≠ "__name__" := by decide) (hdb : (x == ("__debug__" : Str)) = false := by decide)
    (he : starEach (e :: es) X.env = (false, eval e X.env) :: starEach es X.env := by rfl) (hpl : (backTo pos (starEach es X.env)).any (·.1) = false := by rfl) : PE X (.Call (.Name x p) (e :: es) [] pos) (tCB r t) := by
  intro pins s σ H Q I h
  refine wpAny_Call_Name_kw (ld_blt I hg hm hv ?_ hn hdb)
  exact PyProof.Rows.callWith_type1 (thn (ha pos pins s σ H _ I h) fun us s1 ⟨vs, H1, I1, r1, q1⟩ => hc pins s1 σ H1 vs us Q I1 r1 q1) he hpl
end
end L2

namespace HT
open PySem PyProof.Rows

section
open PySem.SeqAt
open PySem.AutoSeq1 (wpAny_loadPart')
open PySem.MeetsSeq PySem.MeetsSeq2 PySem.MeetsSeq3

end

section
variable {prog : Program} {w : World} {A : Around} {E : Value → Shared → Prop} {s : Shared}

/-- t + u, t not empty -/
theorem cat_tup {t b : Addr} {vs ws : List Value} {Q : Value → Shared → Prop} (ht : IsTup s.heap t vs.toArray) (hb : IsTup s.heap b ws.toArray) (hv : vs ≠ [])
    (h1 : ws = [] → Q (.ref t) s) (h2 : ws ≠ [] → Q (.ref s.heap.objs.size) { s with heap := s.heap.push { cls := .type "tuple", data := .seq (vs ++ ws).toArray } })
    (hsz : vs.length + ws.length ≤ sizeLine) : wpAny (model prog w) A (binaryOp .Add (.ref t) (.ref b)) Q E s := by
  obtain ⟨⟨cls, dd, data, sl⟩, ho, hc, n, hd⟩ := id ht
  obtain ⟨⟨cls2, dd2, data2, sl2⟩, ho2, hc2, n2, hd2⟩ := id hb
  simp only at hc hd hc2 hd2
  subst hc hd hc2 hd2
  have e : vs.toArray ++ ws.toArray = (vs ++ ws).toArray := by simp
  by_cases hw : ws = []
  · exact concat_meets ⟨_, ho, rfl⟩ ⟨_, ho2, rfl⟩ noFill_tuple_add seq_tuple_add PySem.F.slot_tuple_add PySem.F.entry_tuple_add (PySem.F.args_tuple_add_2 _ _)
      (tuple_addW1 t b vs.toArray ws.toArray n n2 dd dd2 sl sl2 (by simpa using hv) (by simp [hw])) ⟨ho, ho2, h1 hw⟩
  · refine concat_meets ⟨_, ho, rfl⟩ ⟨_, ho2, rfl⟩ noFill_tuple_add seq_tuple_add PySem.F.slot_tuple_add PySem.F.entry_tuple_add (PySem.F.args_tuple_add_2 _ _)
      (tuple_addW2 t b vs.toArray ws.toArray n n2 dd dd2 sl sl2 (by simpa using hv) (by simpa using hw) (by rw [List.size_toArray, List.size_toArray]; exact hsz)) ⟨ho, ho2, ?_⟩
    rw [e]
    exact h2 hw

/-! ### t[a:b], not the whole -/
/-- a slice's bound as a place among n (d where it is left out) -/
def sIx (n d : Nat) : Option Int → Nat
  | none => d
  | some v => if v < 0 then (v + (n : Int)).toNat else min v.toNat n
theorem sIx_le (n d : Nat) (hd : d ≤ n) (o : Option Int) : sIx n d o ≤ n := by
  cases o with
  | none => exact hd
  | some v =>
    show (if v < 0 then (v + (n : Int)).toNat else min v.toNat n) ≤ n
    by_cases hv : v < 0
    · rw [if_pos hv]; omega
    · rw [if_neg hv]; exact Nat.min_le_right _ _
theorem clip_eq (v : Int) (n d : Nat) : (if v < 0 then max (v + (n : Int)) 0 else min v (n : Int)) = ((sIx n d (some v) : Nat) : Int) := by
  show (if v < 0 then max (v + (n : Int)) 0 else min v (n : Int)) = (((if v < 0 then (v + (n : Int)).toNat else min v.toNat n) : Nat) : Int)
  by_cases hv : v < 0
  · simp only [if_pos hv]; omega
  · simp only [if_neg hv]; omega
theorem adjust_gen (lo hi : Option Int) (n : Nat) : Builtin.Slice.sliceAdjust lo hi 1 (n : Int) = (((sIx n 0 lo : Nat) : Int), ((sIx n n hi : Nat) : Int)) := by
  have h1 : ¬ ((1 : Int) < 0) := by omega
  unfold Builtin.Slice.sliceAdjust
  simp only [h1, if_false]
  refine Prod.ext ?_ ?_
  · cases lo with
    | none => rfl
    | some v => exact clip_eq v n 0
  · cases hi with
    | none => rfl
    | some v => exact clip_eq v n n
theorem places_gen (i j : Nat) : Builtin.Slice.slicePlaces (i : Int) (j : Int) 1 = j - i := by
  unfold Builtin.Slice.slicePlaces
  have h1 : (1 : Int) > 0 := by omega
  simp only [h1, if_true, Int.ediv_one]
  split <;> omega
theorem slicePart_ {v : Value} {o : Option Int} {Q : Option Int → Shared → Prop} (p : IsPart v o) (h : Q o s) : wpAny (model prog w) A (Builtin.Slice.slicePartIndex v) Q E s := by
  cases p with
  | none => exact slicePart_none h
  | int i t => exact slicePart_int h
theorem sliceApplied_gen {sl : Addr} {vl vu : Value} {lo hi : Option Int} {n : Nat} {Q : Int × Int × Nat → Shared → Prop} (hs : s.heap.IsSliceOf sl vl vu .none) (pl : IsPart vl lo) (pu : IsPart vu hi)
    (h : Q (((sIx n 0 lo : Nat) : Int), 1, sIx n n hi - sIx n 0 lo) s) : wpAny (model prog w) A (Builtin.Slice.sliceApplied (.ref sl) (pure (n : Int))) Q E s := by
  obtain ⟨os, hos, hcs, hds⟩ := id hs
  unfold Builtin.Slice.sliceApplied Builtin.Slice.sliceFields
  refine wpAny_bind (wpAny_bind (wpAny_field hos hds (x := vl) rfl (wpAny_bind (wpAny_field hos hds (x := vu) rfl (wpAny_bind (wpAny_field hos hds (x := .none) rfl (wpAny_pure ?_)))))))
  refine wpAny_bind (slicePart_none ?_)
  show wpAny _ _ (if ((1 : Int) == 0) = true then _ else _) _ _ s
  rw [if_neg (by decide)]
  refine wpAny_bind (slicePart_ pl (wpAny_bind (slicePart_ pu (wpAny_bind (wpAny_pure ?_)))))
  show wpAny _ _ (match Builtin.Slice.sliceAdjust lo hi 1 (n : Int) with | (lo, hi) => pure (lo, (1 : Int), Builtin.Slice.slicePlaces lo hi 1)) _ _ s
  rw [adjust_gen lo hi n]
  show wpAny _ _ (pure (((sIx n 0 lo : Nat) : Int), (1 : Int), Builtin.Slice.slicePlaces ((sIx n 0 lo : Nat) : Int) ((sIx n n hi : Nat) : Int) 1)) _ _ s
  rw [places_gen]
  exact wpAny_pure h
theorem pick_gen (xs : Array Value) (i k : Nat) : ((List.range k).filterMap fun (m : Nat) => xs[((i : Int) + (m : Int) * 1).toNat]?).toArray = ((xs.toList.drop i).take k).toArray := by
  have e : (fun (m : Nat) => xs[((i : Int) + (m : Int) * 1).toNat]?) = fun m => xs[i + m]? := by
    funext m
    have : ((i : Int) + (m : Int) * 1).toNat = i + m := by omega
    rw [this]
  rw [e]
  have := pick_run xs i k
  rw [List.filterMap_map] at this
  have e2 : ((fun x => xs[x]?) ∘ fun x => i + x) = fun m => xs[i + m]? := rfl
  rw [e2] at this
  rw [this]

theorem getItem_tuple_cut {t sl : Addr} {items : Array Value} {vl vu : Value} {lo hi : Option Int} {Q : Value → Shared → Prop} (ht : IsTup s.heap t items) (hs : s.heap.IsSliceOf sl vl vu .none) (pl : IsPart vl lo) (pu : IsPart vu hi)
    (hw : ¬ (sIx items.size 0 lo = 0 ∧ sIx items.size items.size hi = items.size))
    (h : Q (.ref s.heap.objs.size) { s with heap := s.heap.push { cls := .type "tuple", data := .seq ((items.toList.drop (sIx items.size 0 lo)).take (sIx items.size items.size hi - sIx items.size 0 lo)).toArray } })
    (hsz : items.size ≤ sizeLine) : wpAny (model prog w) A (getItem (.ref t) (.ref sl)) Q E s := by
  have htake : sizeOk (.seq ((items.toList.drop (sIx items.size 0 lo)).take (sIx items.size items.size hi - sIx items.size 0 lo)).toArray) := by
    show ((items.toList.drop (sIx items.size 0 lo)).take (sIx items.size items.size hi - sIx items.size 0 lo)).toArray.size ≤ sizeLine
    rw [List.size_toArray, List.length_take, List.length_drop, Array.length_toList]
    omega
  have hj : sIx items.size items.size hi ≤ items.size := sIx_le _ _ (Nat.le_refl _) hi
  obtain ⟨os, hos, hcs, hds⟩ := id hs
  have hTs : s.TypeIs (.ref sl) "slice" := ⟨os, hos, hcs⟩
  unfold getItem
  try with_reducible refine wpAny_holding ?_
  first | refine wpAny_bind (wpAny_pure ?_) | skip
  refine wpAny_bind (wpAny_sequenceKey ht.typeIs (by decide) ?_)
  refine wpAny_bind (wpAny_callSpecial?_slot (name := Str.ofString "__getitem__") ht.typeIs PyProof.Rows.slot_tuple_getitem
    (wpAny_call_entry PyProof.Rows.slot_tuple_getitem ht.typeIs entry_tuple_getitem ?_ (args_tuple_getitem _ _)))
  show wpAny _ _ (Builtin.Tuple.tupleItemsOf (.ref t) >>= _) _ _ s
  refine wpAny_bind (tupleItemsOf_ ht ?_)
  refine wpAny_bind (wpAny_typeOf hTs ?_)
  rw [if_pos (by decide)]
  refine wpAny_bind (sliceApplied_gen hs pl pu ?_)
  have hno : ¬ ((((sIx items.size 0 lo : Nat) : Int) == 0 && (1 : Int) == 1 && (sIx items.size items.size hi - sIx items.size 0 lo) == items.size) = true) := by
    intro q
    rw [Bool.and_eq_true, Bool.and_eq_true] at q
    have q1 : ((sIx items.size 0 lo : Nat) : Int) = 0 := eq_of_beq q.1.1
    have q2 : sIx items.size items.size hi - sIx items.size 0 lo = items.size := eq_of_beq q.2
    exact hw ⟨by omega, by omega⟩
  show wpAny _ _ (if (((sIx items.size 0 lo : Nat) : Int) == 0 && (1 : Int) == 1 && (sIx items.size items.size hi - sIx items.size 0 lo) == items.size) = true then _ else _) _ _ s
  rw [if_neg hno, pick_gen]
  first
    | exact wpAny_bind (m := Builtin.Tuple.tupleExact _) (wpAny_newObj_type (wpAny_pure ⟨_, rfl, wpAny_pure h⟩) htake)
    | exact wpAny_bind (m := Builtin.Tuple.tupleExact _) (wpAny_newObj_type (wpAny_bind (wpAny_pure (wpAny_pure ⟨_, rfl, wpAny_pure h⟩))) htake)
    | exact wpAny_bind (wpAny_bind (m := Builtin.Tuple.tupleExact _) (wpAny_newObj_type (wpAny_pure (wpAny_pure ⟨_, rfl, wpAny_pure h⟩)) htake))
    | exact wpAny_bind (wpAny_bind (m := Builtin.Tuple.tupleExact _) (wpAny_newObj_type (wpAny_pure ⟨_, rfl, wpAny_pure h⟩) htake))
end
end HT

namespace L2
open PySem PySem.Spec PyProof.Rows

/-! ### the parts of a slice -/
abbrev TO := St → Hp → (Option Int → Hp → Prop) → Prop
/-- a slice's part (left out, or an int) -/
def PO (X : Cx) (e : Option Expr) (t : TO) : Prop :=
  ∀ (pins : List (Addr × Obj)) (s : Shared) (σ : St) (H : Hp) (Q : Option Int → Hp → Prop), Inv X pins σ H s → t σ H Q →
    wpAny (model X.prog X.w) X.A (evalPart e X.env) (fun u s' => ∃ o H', Inv X pins σ H' s' ∧ IsPart u o ∧ Q o H') X.xe s
def tNoPart : TO := fun _ H Q => Q none H
def tPart (t : TE) : TO := fun σ H Q => t σ H fun x H1 => ∃ i, x = .int i ∧ Q (some i) H1

theorem intsAre_of {ns : List Int} : ∀ {us : List Value}, Vals (ns.map V.int) us → IntsAre us ns := by
  induction ns with
  | nil => intro us r; rw [List.map_nil] at r; cases r; exact .nil
  | cons n ns ih =>
    intro us r
    rw [List.map_cons] at r
    cases r with
    | cons r1 r2 =>
      obtain ⟨t, e⟩ := r1
      subst e
      exact .cons n t (ih r2)

section
variable {X : Cx} {e : Expr} {te : TE} {lo hi : Option Expr} {tl th : TO} {pos p2 : Pos}

theorem po_none : PO X none tNoPart := by
  intro pins s σ H Q I h
  rw [evalPart_none]
  exact wpAny_pure ⟨none, H, I, .none, h⟩
theorem po_some (h : PE X e te) : PO X (some e) (tPart te) := by
  intro pins s σ H Q I hw
  rw [evalPart_some]
  refine thn (h pins s σ H _ I hw) fun u s1 ⟨x, H1, I1, r1, q1⟩ => ?_
  obtain ⟨i, rfl, q⟩ := q1
  obtain ⟨t, rfl⟩ := r1
  exact ⟨some i, H1, I1, .int i t, q⟩

/-- what a slice of a value is, by values: the slice object stands at sl -/
def SlR (X : Cx) (r : V → Option Int → Option Int → Hp → VK → Prop) : Prop :=
  ∀ (pins : List (Addr × Obj)) (s : Shared) (σ : St) (H : Hp) (x : V) (v vl vu : Value) (lo hi : Option Int) (sl : Addr) (Q : VK), Inv X pins σ H s → RelV x v → s.heap.IsSliceOf sl vl vu .none → IsPart vl lo → IsPart vu hi → r x lo hi H Q →
    ∃ T id, typeLookup (.type T) "__getitem__" = pure (some (.builtin id)) ∧ s.TypeIs v T ∧ wpAny (model X.prog X.w) X.A (getItem v (.ref sl)) (EP X pins σ Q) X.xe s
theorem SlR.or {r r' : V → Option Int → Option Int → Hp → VK → Prop} (h : SlR X r) (h' : SlR X r') : SlR X (fun x lo hi H Q => r x lo hi H Q ∨ r' x lo hi H Q) := by
  intro pins s σ H x v vl vu lo hi sl Q I rx hs pl pu q
  rcases q with q | q
  · exact h pins s σ H x v vl vu lo hi sl Q I rx hs pl pu q
  · exact h' pins s σ H x v vl vu lo hi sl Q I rx hs pl pu q
def tSl (r : V → Option Int → Option Int → Hp → VK → Prop) (te : TE) (tl th : TO) : TE := fun σ H Q => te σ H fun x H1 => tl σ H1 fun l H2 => th σ H2 fun u H3 => r x l u H3 Q
/-- a[lo:hi], any a -/
theorem pe_slice {r : V → Option Int → Option Int → Hp → VK → Prop} (hr : SlR X r) (he : PE X e te) (hl : PO X lo tl) (hu : PO X hi th) : PE X (.Subscript e (.Slice lo hi none p2) pos) (tSl r te tl th) := by
  intro pins s σ H Q I h
  refine Subscript_ (thn (he pins s σ H _ I h) fun v s1 ⟨x, H1, I1, r1, q1⟩ => ?_)
  refine wpAny_Slice (thn (hl pins s1 σ H1 _ I1 q1) fun vl s2 ⟨l, H2, I2, pl, q2⟩ => thn (hu pins s2 σ H2 _ I2 q2) fun vu s3 ⟨u, H3, I3, pu, q3⟩ => ?_)
  rw [evalPart_none]
  refine wpAny_pure ?_
  have I4 : Inv X pins σ H3 { s3 with heap := s3.heap.push { cls := .type "slice", data := .fields #[vl, vu, .none] } } := I3.kept (t' := s3.toks) fun b ob q => Heap.get?_push_of_some _ q
  obtain ⟨T, id, hT, ht, hg⟩ := hr pins { s3 with heap := s3.heap.push { cls := .type "slice", data := .fields #[vl, vu, .none] } } σ H3 x v vl vu l u s3.heap.objs.size Q I4 r1 (Heap.IsSliceOf.new ..) pl pu q3
  show wpAny (model X.prog X.w) X.A (subscriptTail e (.Slice lo hi none p2) v (.ref s3.heap.objs.size)) (EP X pins σ Q) X.xe { s3 with heap := s3.heap.push { cls := .type "slice", data := .fields #[vl, vu, .none] } }
  exact tail_any (ops := [.ref s3.heap.objs.size, v]) ht hT hg (by with_unfolding_all rfl)

/-- the items of xs[lo:hi] -/
def cutV (xs : List V) (lo hi : Option Int) : List V := (xs.drop (HT.sIx xs.length 0 lo)).take (HT.sIx xs.length xs.length hi - HT.sIx xs.length 0 lo)
theorem cutV_length (xs : List V) (lo hi : Option Int) : (cutV xs lo hi).length ≤ xs.length := by
  unfold cutV
  rw [List.length_take, List.length_drop]
  omega
/-- t[lo:hi], not the whole of it (the whole would be t itself) -/
def rSlT (K : PySem.W.Frag) : V → Option Int → Option Int → Hp → VK → Prop := fun x lo hi H Q => ∃ a xs, x = .ref a ∧ SqT K H a xs ∧
  ¬ (HT.sIx xs.length 0 lo = 0 ∧ HT.sIx xs.length xs.length hi = xs.length) ∧ ∀ p, H p = none → Q (.ref p) (upd H p (.tup (cutV xs lo hi)))
theorem sl_tup : SlR X (rSlT X.K) := by
  intro pins s σ H x v vl vu lo hi sl Q I rx hs pl pu h
  obtain ⟨a, xs, rfl, hx, hw, q⟩ := h
  cases rx
  obtain ⟨its, r, ht, hz⟩ := I.tuple hx
  have hlen : its.toArray.size = xs.length := by rw [List.size_toArray]; exact r.length.symm
  refine ⟨"tuple", _, PyProof.Rows.slot_tuple_getitem.lookup, ht.typeIs, ?_⟩
  refine HT.getItem_tuple_cut ht hs pl pu (by rw [hlen]; exact hw) ?_ (by rw [hlen]; exact hz)
  rw [hlen]
  refine ⟨.ref s.heap.objs.size, _, I.laid (t' := s.toks) (o := .tup (cutV xs lo hi)) (fun b ob q => Heap.get?_push_of_some _ q) (Nat.le_refl _) ?_, rfl, q _ (I.hok.fresh (Nat.le_refl _))⟩
  exact ⟨Nat.le_trans (cutV_length xs lo hi) hz, _, (r.drop (HT.sIx xs.length 0 lo)).take (HT.sIx xs.length xs.length hi - HT.sIx xs.length 0 lo), IsTupN.new _ _⟩

/-- t + u, t not empty: u empty gives t itself -/
def rCatT (K : PySem.W.Frag) : R2 := fun x y H Q => ∃ a b xs ys, x = .ref a ∧ y = .ref b ∧ SqT K H a xs ∧ SqT K H b ys ∧ xs ≠ [] ∧ xs.length + ys.length ≤ sizeLine ∧
  (ys = [] → Q (.ref a) H) ∧ (ys ≠ [] → ∀ p, H p = none → Q (.ref p) (upd H p (.tup (xs ++ ys))))
theorem Vals.nil_iff {xs : List V} {us : List Value} (r : Vals xs us) : us = [] ↔ xs = [] := by
  cases r with
  | nil => simp
  | cons _ _ => simp
theorem op_catT : OpR X (binaryOp .Add) (rCatT X.K) := by
  intro pins s σ H x y v u Q I rx ry h
  obtain ⟨a, b, xs, ys, rfl, rfl, ha, hb, hx, hz, q1, q2⟩ := h
  cases rx
  cases ry
  obtain ⟨its, r1, p1, _⟩ := I.tuple ha
  obtain ⟨its2, r2, p2, _⟩ := I.tuple hb
  refine HT.cat_tup p1 p2 (fun z => hx (r1.nil_iff.mp z)) (fun z => ⟨.ref a, H, I, rfl, q1 (r2.nil_iff.mp z)⟩) (fun z => ?_) (by rw [← r1.length, ← r2.length]; exact hz)
  refine ⟨.ref s.heap.objs.size, _, I.laid (t' := s.toks) (o := .tup (xs ++ ys)) (fun b ob q => Heap.get?_push_of_some _ q) (Nat.le_refl _) ?_, rfl, q2 (fun w => z (r2.nil_iff.mpr w)) _ (I.hok.fresh (Nat.le_refl _))⟩
  exact ⟨by rw [List.length_append]; exact hz, _, r1.append r2, IsTupN.new _ _⟩
end
end L2

namespace L2
open PySem PySem.Spec PyProof.Rows

/-! ### places -/
/-- the place that an index of any sign means -/
def ixN (n : Nat) (i : Int) : Option Nat := if 0 ≤ i then (if i < n then some i.toNat else none) else if -(n : Int) ≤ i then some (i + n).toNat else none
def atI {α : Type} (xs : List α) (i : Int) : Option α := (ixN xs.length i).bind fun j => xs[j]?
theorem ixN_seq {n : Nat} {i : Int} {j : Nat} (h : ixN n i = some j) : seqIndex? i n = some j ∧ j < n ∧ -(n : Int) ≤ i ∧ i < n := by
  unfold ixN at h
  by_cases h0 : 0 ≤ i
  · rw [if_pos h0] at h
    by_cases h1 : i < n
    · rw [if_pos h1] at h
      have e : i.toNat = j := Option.some.inj h
      exact ⟨by rw [seqIndex_of h0 h1, e], by omega, by omega, h1⟩
    · rw [if_neg h1] at h; cases h
  · rw [if_neg h0] at h
    by_cases h1 : -(n : Int) ≤ i
    · rw [if_pos h1] at h
      have e : (i + n).toNat = j := Option.some.inj h
      exact ⟨by rw [seqIndex_neg (by omega) h1, e], by omega, h1, by omega⟩
    · rw [if_neg h1] at h; cases h
theorem atI_get {α : Type} {xs : List α} {i : Int} {v : α} (h : atI xs i = some v) : ∃ j, seqIndex? i xs.length = some j ∧ xs[j]? = some v ∧ j < xs.length ∧ -(xs.length : Int) ≤ i ∧ i < xs.length := by
  unfold atI at h
  cases e : ixN xs.length i with
  | none => rw [e] at h; cases h
  | some j =>
    rw [e] at h
    obtain ⟨h1, h2, h3, h4⟩ := ixN_seq e
    exact ⟨j, h1, h, h2, h3, h4⟩
/-! ### what may be subscripted -/
/-- what stands as an index of a plain subscript -/
def PlainIx (b : Expr) : Prop := ∀ o i, subscripted b false o i = operate [o, i] (getItem o i)
/-- a subscript by values -/
def IxR (X : Cx) (r : R2) : Prop :=
  ∀ (value slice : Expr) (pins : List (Addr × Obj)) (s : Shared) (σ : St) (H : Hp) (x y : V) (v u : Value) (Q : VK), Inv X pins σ H s → RelV x v → RelV y u → r x y H Q →
    subscripted slice false v u = operate [v, u] (getItem v u) → wpAny (model X.prog X.w) X.A (subscriptTail value slice v u) (EP X pins σ Q) X.xe s
/-- a call of a builtin's method by values: the receiver, the arguments -/
def MtR (X : Cx) (id : String) (r : V → List V → Hp → VK → Prop) : Prop :=
  ∀ (pins : List (Addr × Obj)) (s : Shared) (σ : St) (H : Hp) (x : V) (xs : List V) (v : Value) (us : List Value) (Q : VK), Inv X pins σ H s → RelV x v → Vals xs us → r x xs H Q →
    wpAny (model X.prog X.w) X.A (call (.builtin id) (v :: us)) (EP X pins σ Q) X.xe s
section
variable {X : Cx} {a b : Expr} {ta tb : TE} {pos : Pos}
theorem IxR.or {r r' : R2} (h : IxR X r) (h' : IxR X r') : IxR X (fun x y H Q => r x y H Q ∨ r' x y H Q) := by
  intro value slice pins s σ H x y v u Q I rx ry q hs
  rcases q with q | q
  · exact h value slice pins s σ H x y v u Q I rx ry q hs
  · exact h' value slice pins s σ H x y v u Q I rx ry q hs
theorem MtR.or {id : String} {r r' : V → List V → Hp → VK → Prop} (h : MtR X id r) (h' : MtR X id r') : MtR X id (fun x xs H Q => r x xs H Q ∨ r' x xs H Q) := by
  intro pins s σ H x xs v us Q I rx rs q
  rcases q with q | q
  · exact h pins s σ H x xs v us Q I rx rs q
  · exact h' pins s σ H x xs v us Q I rx rs q
/-- a[b] -/
theorem pe_ix {r : R2} (hr : IxR X r) (ha : PE X a ta) (hb : PE X b tb) (hs : PlainIx b) : PE X (.Subscript a b pos) (tOp r ta tb) := by
  intro pins s σ H Q I h
  exact Subscript_ (binT ha hb I h fun v u s2 x y H2 I2 rx ry q => hr a b pins s2 σ H2 x y v u Q I2 rx ry q (hs _ _))

def rIxL (K : PySem.W.Frag) : R2 := fun x y H Q => ∃ p xs i v, x = .ref p ∧ y = .int i ∧ SqL K H p xs ∧ atI xs i = some v ∧ Q v H
def rIxT (K : PySem.W.Frag) : R2 := fun x y H Q => ∃ p xs i v, x = .ref p ∧ y = .int i ∧ SqT K H p xs ∧ atI xs i = some v ∧ Q v H
def rIxS : R2 := fun x y H Q => ∃ z i c, x = .str z ∧ y = .int i ∧ z.length ≤ sizeLine ∧ atI z.cps.toList i = some c ∧ Q (.str ⟨#[c]⟩) H
theorem ix_list : IxR X (rIxL X.K) := by
  intro value slice pins s σ H x y v u Q I rx ry h hs
  obtain ⟨p, xs, i, z, rfl, rfl, hq, he, q⟩ := h
  cases rx
  obtain ⟨t, rfl⟩ := ry
  obtain ⟨its, r, pl, hz⟩ := I.list hq
  obtain ⟨j, h1, h2, h3, h4, h5⟩ := atI_get he
  obtain ⟨w, ew, rw'⟩ := r.get h2
  have hl := r.length
  have hn := line63
  have fin : EP X pins σ Q w s := ⟨z, H, I, rw', q⟩
  by_cases h0 : 0 ≤ i
  · have hj : i.toNat = j := by
      rw [seqIndex_of h0 h5] at h1
      exact Option.some.inj h1
    exact item_listR pl.isList h0 (by omega) (by rw [hj]; simpa using ew) fin hs
  · have hj : (i + (its.toArray.size : Int)).toNat = j := by
      rw [seqIndex_neg (by omega) h4] at h1
      rw [List.size_toArray, ← hl]
      exact Option.some.inj h1
    exact subscriptTail_builtinR (x := w) pl.isList.typeIs slot_list_getitem.lookup
      (wpAny_getItem_list_neg (Q := fun r s' => r = w ∧ EP X pins σ Q r s') pl.isList (by omega) (by rw [List.size_toArray] <;> omega) (by omega) (by rw [hj]; simpa using ew) ⟨rfl, fin⟩) hs
theorem ix_tup : IxR X (rIxT X.K) := by
  intro value slice pins s σ H x y v u Q I rx ry h hs
  obtain ⟨p, xs, i, z, rfl, rfl, hq, he, q⟩ := h
  cases rx
  obtain ⟨t, rfl⟩ := ry
  obtain ⟨its, r, pl, hz⟩ := I.tuple hq
  obtain ⟨j, h1, h2, h3, h4, h5⟩ := atI_get he
  obtain ⟨w, ew, rw'⟩ := r.get h2
  have hl := r.length
  have hn := line63
  have fin : EP X pins σ Q w s := ⟨z, H, I, rw', q⟩
  exact subscriptTail_builtinR (x := w) pl.typeIs slot_tuple_getitem.lookup
    (getItem_tuple (j := j) (Q := fun r s' => r = w ∧ EP X pins σ Q r s') pl (by omega) (by omega) (by rw [List.size_toArray, ← hl]; exact h1) (by simpa using ew) ⟨rfl, fin⟩) hs
theorem ix_str : IxR X rIxS := by
  intro value slice pins s σ H x y v u Q I rx ry h hs
  obtain ⟨z, i, c, rfl, rfl, hz, he, q⟩ := h
  obtain ⟨t, rfl⟩ := rx
  obtain ⟨t', rfl⟩ := ry
  obtain ⟨j, h1, h2, h3, h4, h5⟩ := atI_get he
  have hl : z.cps.toList.length = z.length := by simp [Str.length]
  rw [hl] at h1 h4 h5
  have hn := line63
  exact tail_any (typeIs_str s z t) slot_str_getitem.lookup (getItem_str (c := c) (by
    have e1 : decide (i < -(2 ^ 63 : Int)) = false := decide_eq_false (by omega)
    have e2 : decide (i ≥ 2 ^ 63) = false := decide_eq_false (by omega)
    rw [e1, e2, Bool.or_false]) (by rw [h1]; simpa using h2) ⟨.str ⟨#[c]⟩, H, I.tok _, ⟨_, rfl⟩, q⟩) hs
/-- list, tuple or str -/
def rIx (K : PySem.W.Frag) : R2 := fun x y H Q => rIxL K x y H Q ∨ rIxT K x y H Q ∨ rIxS x y H Q
theorem ix_seq : IxR X (rIx X.K) := ix_list.or (ix_tup.or ix_str)

/-! ### xs[i] = v, any sign -/
/-- the list's object behind a store -/
theorem mapSeq_set (its : List Value) (n j : Nat) (u : Value) : Obj.mapSeq (·.setIfInBounds j u) { cls := .type "list", data := .seq its.toArray n } = { cls := .type "list", data := .seq (its.set j u).toArray n } := by
  simp [Obj.mapSeq]
theorem Inv.lst {pins : List (Addr × Obj)} {σ : St} {H : Hp} {s : Shared} {p : Addr} {xs : List V} (I : Inv X pins σ H s) (h : H p = some (.lst xs)) :
    ∃ (its : List Value) (n : Nat), Vals xs its ∧ s.heap.get? p = some { cls := .type "list", data := .seq its.toArray n } ∧ xs.length ≤ sizeLine := by
  obtain ⟨z, its, n, r, e⟩ := I.hok p _ h
  exact ⟨its, n, r, e, z⟩
/-- the list at p is written by an update of its object -/
theorem Inv.lstUpd {pins : List (Addr × Obj)} {σ : St} {H : Hp} {s : Shared} {p : Addr} {xs ys : List V} {its its' : List Value} {n n' : Nat} {f : Obj → Obj} (I : Inv X pins σ H s) (h : H p = some (.lst xs))
    (ho : s.heap.get? p = some { cls := .type "list", data := .seq its.toArray n }) (hf : f { cls := .type "list", data := .seq its.toArray n } = { cls := .type "list", data := .seq its'.toArray n' }) (r : Vals ys its') (hz : ys.length ≤ sizeLine) (t : Nat) :
    Inv X pins σ (upd H p (.lst ys)) { s with heap := s.heap.update p f, toks := t } := by
  have e : (s.heap.update p f).get? p = some { cls := .type "list", data := .seq its'.toArray n' } := by
    rw [Heap.get?_update_self f ho (by rw [hf] <;> rfl), hf]
  refine I.write (x := p) (e := p) (by rw [h]; trivial) (.inl rfl) (fun b u hb q => (Heap.get?_update_other _ _ (Ne.symm hb)).trans q) ⟨_, e⟩ ?_
  exact ⟨hz, its', n', r, e⟩
def rSetL : V → V → V → Hp → (Hp → Prop) → Prop := fun o i v H Q => ∃ p xs k j, o = .ref p ∧ i = .int k ∧ H p = some (.lst xs) ∧ ixN xs.length k = some j ∧ Q (upd H p (.lst (xs.set j v)))
theorem set_list : PSet X rSetL := by
  intro pins s σ H o i v ov iv u Q I ro ri rv h
  obtain ⟨p, xs, k, j, rfl, rfl, hp, hj, q⟩ := h
  cases ro
  obtain ⟨t, rfl⟩ := ri
  obtain ⟨its, n, r, ho, hz⟩ := I.lst hp
  obtain ⟨h1, h2, h3, h4⟩ := ixN_seq hj
  have hl := r.length
  have hn := line63
  have I' : Inv X pins σ (upd H p (.lst (xs.set j v))) { s with heap := s.heap.update p (Obj.mapSeq (·.setIfInBounds j u)) } :=
    I.lstUpd hp ho (mapSeq_set its n j u) (r.set rv j) (by rw [List.length_set]; exact hz) s.toks
  by_cases h0 : 0 ≤ k
  · have hk : k.toNat = j := by
      rw [seqIndex_of h0 h4] at h1
      exact Option.some.inj h1
    exact PySem.W.ki_setAt ho h0 (by omega) (by rw [List.size_toArray, ← hl]; exact h4) (by rw [hk]; exact ⟨_, I', q⟩)
  · have hk : (k + (its.toArray.size : Int)).toNat = j := by
      rw [seqIndex_neg (by omega) h3] at h1
      rw [List.size_toArray, ← hl]
      exact Option.some.inj h1
    exact PySem.W.ki_setBack ho (by omega) (by rw [List.size_toArray, ← hl]; exact h3) (by omega) (by rw [hk]; exact ⟨_, I', q⟩)

/-! ### slices -/
theorem slice_bounds (lo hi : Option Int) (n : Nat) : (sliceBounds lo hi none n).1 = ((HT.sIx n 0 lo : Nat) : Int) ∧ (sliceBounds lo hi none n).2.1 = ((HT.sIx n n hi : Nat) : Int) ∧ (sliceBounds lo hi none n).2.2 = 1 := by
  refine ⟨?_, ?_, rfl⟩
  · cases lo with
    | none => simp [sliceBounds, HT.sIx]
    | some i =>
      simp only [sliceBounds, HT.sIx, Option.getD_none, show (1 : Int) > 0 by decide, if_true]
      by_cases h : i < 0
      · simp only [h, if_true] <;> omega
      · simp only [h, if_false] <;> omega
  · cases hi with
    | none => simp [sliceBounds, HT.sIx]
    | some i =>
      simp only [sliceBounds, HT.sIx, Option.getD_none, show (1 : Int) > 0 by decide, if_true]
      by_cases h : i < 0
      · simp only [h, if_true] <;> omega
      · simp only [h, if_false] <;> omega
theorem slicePick_cut (its : List Value) (lo hi : Option Int) : slicePick its.toArray lo hi none = ((its.drop (HT.sIx its.length 0 lo)).take (HT.sIx its.length its.length hi - HT.sIx its.length 0 lo)).toArray := by
  obtain ⟨h1, h2, h3⟩ := slice_bounds lo hi its.toArray.size
  unfold slicePick
  rw [h1, h2, h3]
  simp only [sliceRange_one, pick_run, List.size_toArray] <;> rfl
/-- xs[lo:hi] of a list: a new list -/
def rSlL (K : PySem.W.Frag) : V → Option Int → Option Int → Hp → VK → Prop := fun x lo hi H Q => ∃ a xs, x = .ref a ∧ SqL K H a xs ∧ ∀ p, H p = none → Q (.ref p) (upd H p (.lst (cutV xs lo hi)))
theorem sl_list : SlR X (rSlL X.K) := by
  intro pins s σ H x v vl vu lo hi sl Q I rx hs pl pu h
  obtain ⟨a, xs, rfl, hx, q⟩ := h
  cases rx
  obtain ⟨its, r, ht, hz⟩ := I.list hx
  have hlen := r.length
  refine ⟨"list", _, slot_list_getitem.lookup, ht.isList.typeIs, ?_⟩
  refine wpAny_getItem_list_slice ht.isList hs pl pu .none (by simp) ?_ (by rw [List.size_toArray] <;> omega)
  rw [slicePick_cut, ← hlen]
  refine ⟨.ref s.heap.objs.size, _, I.laid (t' := s.toks) (o := .lst (cutV xs lo hi)) (fun b ob q => Heap.get?_push_of_some _ q) (Nat.le_refl _) ?_, rfl, q _ (I.hok.fresh (Nat.le_refl _))⟩
  exact ⟨Nat.le_trans (cutV_length xs lo hi) hz, _, 0, (r.drop (HT.sIx xs.length 0 lo)).take (HT.sIx xs.length xs.length hi - HT.sIx xs.length 0 lo), Heap.get?_push_size _ rfl⟩

/-! ### len, list(x), tuple(x) of any list or tuple that is read -/
theorem call_len_seq : CallR X (.builtin "len") (fun xs H Q => ∃ p ys, xs = [.ref p] ∧ (SqL X.K H p ys ∨ SqT X.K H p ys) ∧ Q (.int ys.length) H) := by
  intro pins s σ H xs us Q I r h
  obtain ⟨p, ys, rfl, hq, q⟩ := h
  obtain ⟨u, rfl, rx⟩ := vals1 r
  cases rx
  have hn := line63
  rcases hq with hq | hq
  · obtain ⟨its, r', pl, hz⟩ := I.list hq
    have hlen := r'.length
    exact Calls.call_len_list pl.isList (by simp only [List.size_toArray] <;> omega) ⟨.int ys.length, H, I.tok _, ⟨s.toks + 1, by rw [List.size_toArray, hlen]⟩, q⟩
  · obtain ⟨its, r', pl, hz⟩ := I.tuple hq
    have hlen := r'.length
    exact len_tuple pl (by simp only [List.size_toArray] <;> omega) ⟨.int ys.length, H, I.tok _, ⟨s.toks + 1, by rw [List.size_toArray, hlen]⟩, q⟩
theorem call_len_str : CallR X (.builtin "len") (fun xs H Q => ∃ z, xs = [.str z] ∧ z.length ≤ sizeLine ∧ Q (.int z.length) H) := by
  intro pins s σ H xs us Q I r h
  obtain ⟨z, rfl, hz, q⟩ := h
  obtain ⟨u, rfl, t, rfl⟩ := vals1 r
  have hn := line63
  exact len_str (by omega) ⟨.int z.length, H, I.tok _, ⟨_, rfl⟩, q⟩
theorem CallR.or {f : Value} {r r' : List V → Hp → VK → Prop} (h : CallR X f r) (h' : CallR X f r') : CallR X f (fun xs H Q => r xs H Q ∨ r' xs H Q) := by
  intro pins s σ H xs us Q I rs q
  rcases q with q | q
  · exact h pins s σ H xs us Q I rs q
  · exact h' pins s σ H xs us Q I rs q
theorem call_list_of : CallR X (.type "list") (fun xs H Q => ∃ p ys, xs = [.ref p] ∧ (SqL X.K H p ys ∨ SqT X.K H p ys) ∧ ∀ l, H l = none → Q (.ref l) (upd H l (.lst ys))) := by
  intro pins s σ H xs us Q I r h
  obtain ⟨p, ys, rfl, hq, q⟩ := h
  obtain ⟨u, rfl, rx⟩ := vals1 r
  cases rx
  have fin : ∀ (its : List Value), Vals ys its → ys.length ≤ sizeLine → ∀ (h' : Heap) (c' : Nat), (∀ b o', s.heap.get? b = some o' → h'.get? b = some o') →
      h'.get? s.heap.objs.size = some { cls := .type "list", dict := none, data := .seq its.toArray c', slots := #[] } → EP X pins σ Q (.ref s.heap.objs.size) { s with heap := h' } := fun its r' hz h' c' kp e =>
    ⟨.ref s.heap.objs.size, _, I.laid (t' := s.toks) kp (Nat.le_refl _) (show ObjOk X.prog X.w _ h' _ (.lst ys) from ⟨hz, its, c', r', e⟩), rfl, q _ (I.hok.fresh (Nat.le_refl _))⟩
  rcases hq with hq | hq
  · obtain ⟨its, r', pl, hz⟩ := I.list hq
    have hlen := r'.length
    obtain ⟨o, ho, hc, n, hd⟩ := pl.isList
    exact call_list_seq p (.inl rfl) ho hc hd (fun h' c' kp e => fin its r' hz h' c' kp e) (by simp only [List.size_toArray] <;> omega)
  · obtain ⟨its, r', pl, hz⟩ := I.tuple hq
    have hlen := r'.length
    obtain ⟨o, ho, hc, n, hd⟩ := pl
    exact call_list_seq p (.inr rfl) ho hc hd (fun h' c' kp e => fin its r' hz h' c' kp e) (by simp only [List.size_toArray] <;> omega)
theorem call_tuple_of : CallR X (.type "tuple") (fun xs H Q => ∃ p ys, xs = [.ref p] ∧ ((SqL X.K H p ys ∧ ∀ l, H l = none → Q (.ref l) (upd H l (.tup ys))) ∨ (SqT X.K H p ys ∧ Q (.ref p) H))) := by
  intro pins s σ H xs us Q I r h
  obtain ⟨p, ys, rfl, h⟩ := h
  obtain ⟨u, rfl, rx⟩ := vals1 r
  cases rx
  rcases h with ⟨hq, q⟩ | ⟨hq, q⟩
  · obtain ⟨its, r', pl, hz⟩ := I.list hq
    have hlen := r'.length
    refine call_tuple_list pl.isList (fun h' kp => ?_) (by simp only [List.size_toArray] <;> omega)
    have I1 : Inv X pins σ H { s with heap := h' } := I.kept (t' := s.toks) kp
    have I2 : Inv X pins σ (upd H h'.objs.size (.tup ys)) { s with heap := h'.push { cls := .type "tuple", data := .seq its.toArray } } :=
      I1.laid (t' := s.toks) (fun b o e => Heap.get?_push_of_some _ e) (Nat.le_refl _) (show ObjOk X.prog X.w _ _ _ (.tup ys) from ⟨hz, its, r', IsTupN.new _ _⟩)
    exact ⟨.ref h'.objs.size, _, I2, rfl, q _ (I1.hok.fresh (Nat.le_refl _))⟩
  · obtain ⟨its, r', pl, hz⟩ := I.tuple hq
    exact call_tuple_same pl ⟨.ref p, H, I, rfl, q⟩

/-! ### the call of a builtin's method: o.m(..) -/
/-- the value is of that builtin type -/
def tyV (K : PySem.W.Frag) (T : String) (x : V) (H : Hp) : Prop := match x with
  | .str _ => T = "str"
  | .int _ => T = "int"
  | .ref p => (T = "list" ∧ ∃ xs, SqL K H p xs) ∨ (T = "tuple" ∧ ∃ o, K.lookup p = some o ∧ o.cls = .type "tuple" ∧ o.dict = none) ∨
      (T = "dict" ∧ ((∃ kvs, H p = some (.dK kvs)) ∨ ∃ kvs, H p = some (.dT kvs))) ∨ (T = "set" ∧ ∃ S n, H p = some (.set S n))
  | _ => False
theorem tyV_is {pins : List (Addr × Obj)} {σ : St} {H : Hp} {s : Shared} {T : String} {x : V} {v : Value} (I : Inv X pins σ H s) (r : RelV x v) (ty : tyV X.K T x H) :
    s.TypeIs v T ∧ ∀ a, v = .ref a → ∃ ob, s.heap.get? a = some ob ∧ ob.dict = none := by
  cases x with
  | str z =>
    obtain ⟨t, rfl⟩ := r
    cases (show T = "str" from ty)
    exact ⟨typeIs_str s z t, fun _ e => nomatch e⟩
  | int i =>
    obtain ⟨t, rfl⟩ := r
    cases (show T = "int" from ty)
    exact ⟨typeIs_int s i t, fun _ e => nomatch e⟩
  | ref p =>
    cases r
    rcases ty with ⟨rfl, xs, hq⟩ | ⟨rfl, o, hk, hc, hd⟩ | ⟨rfl, hk⟩ | ⟨rfl, S, n, hk⟩
    · obtain ⟨its, _, pl, _⟩ := I.list hq
      refine ⟨pl.isList.typeIs, fun a e => ?_⟩
      cases e
      obtain ⟨o, n, e, c, hd, _⟩ := pl
      exact ⟨o, e, hd⟩
    · refine ⟨⟨o, I.kIn p o hk, hc⟩, fun a e => ?_⟩
      cases e
      exact ⟨o, I.kIn _ o hk, hd⟩
    · have z : ∃ o, s.heap.get? p = some o ∧ o.ExactDict := by
        rcases hk with ⟨kvs, hk⟩ | ⟨kvs, hk⟩
        · obtain ⟨_, _, _, _, o, _, _, e, ex, _⟩ := I.hok p _ hk
          exact ⟨o, e, ex⟩
        · obtain ⟨_, _, _, _, o, _, _, e, ex, _⟩ := I.hok p _ hk
          exact ⟨o, e, ex⟩
      obtain ⟨o, e, ex⟩ := z
      refine ⟨⟨o, e, ex.1⟩, fun a e2 => ?_⟩
      cases e2
      exact ⟨o, e, ex.2.1⟩
    · obtain ⟨o, _, _, _, e, ex, _⟩ := I.hok p _ hk
      refine ⟨⟨o, e, ex.1⟩, fun a e2 => ?_⟩
      cases e2
      exact ⟨o, e, ex.2.1⟩
  | _ => exact False.elim ty
def tBM (K : PySem.W.Frag) (T : String) (r : V → List V → Hp → VK → Prop) (to : TE) (t : TA) : TE := fun σ H Q => to σ H fun x H1 => tyV K T x H1 ∧ t σ H1 fun xs H2 => r x xs H2 Q
variable {o e : Expr} {es : List Expr} {to : TE} {t : TA} {name : Str} {apos cpos : Pos} {T id : String} {r : V → List V → Hp → VK → Prop}
theorem pe_bm (pa : PlainAttrs T) (slot : Slot T name id) (hty : typeOf (.builtin id) = pure (.type "method_descriptor")) (hm : MtR X id r) (ho : PE X o to) (ha : PA X (e :: es) t)
    (hbase : attributeBase o name X.env (eval o X.env) = eval o X.env := by rfl)
    (hfew : ((backTo cpos (starEach (e :: es) X.env)).all (fun x => !x.1) && (backToKw cpos (keywordEach [] X.env)).all (fun x => x.1.isSome)
      && decide ((e :: es).length + ([] : List Keyword).length + (if ([] : List Keyword).isEmpty then 0 else 1) < 30)) = true := by rfl)
    (hline : (apos.endLine == cpos.line) = true := by rfl) (hs : starEach (e :: es) X.env = (false, eval e X.env) :: starEach es X.env := by rfl) (hplain : (backTo cpos (starEach es X.env)).any (·.1) = false := by rfl) :
    PE X (.Call (.Attribute o name apos) (e :: es) [] cpos) (tBM X.K T r to t) := by
  intro pins s σ H Q I h
  refine wpAny_Call_method_late hbase hfew hline rfl (thn (ho pins s σ H _ I h) fun v s1 ⟨x, H1, I1, r1, ty, q1⟩ => ?_)
  obtain ⟨h1, h2⟩ := tyV_is I1 r1 ty
  refine ⟨T, id, pa, slot, hty, h1, h2, ?_⟩
  have hA := ha cpos pins s1 σ H1 _ I1 q1
  rw [hs] at hA ⊢
  refine Calls.callWith_builtin (by show (false || (backTo cpos (starEach es X.env)).any (·.1)) = false; rw [hplain] <;> rfl) (Calls.evalArgs_plain ?_)
  exact thn hA fun us s2 ⟨vs, H2, I2, r2, q2⟩ => hm pins s2 σ H2 x vs v us Q I2 r1 r2 q2
/- xs.append(e), list.index on a module's tuple .. are MtR facts of 06m -/
end
end L2

namespace L2
open PySem PySem.Spec PyProof.Rows

def MtM (X : Cx) (id : String) (r : V → List V → Hp → VK → Prop) : Prop :=
  ∀ (pins : List (Addr × Obj)) (s : Shared) (σ : St) (H : Hp) (x : V) (xs : List V) (v : Value) (us : List Value) (Q : VK), Inv X pins σ H s → RelV x v → Vals xs us → r x xs H Q →
    wpAny (model X.prog X.w) X.A (call (.builtin id) (v :: us)) (EP X pins σ Q) X.xe s

/-! ### lists of values -/
theorem Vals.one : ∀ {x : V} {us : List Value}, Vals [x] us → ∃ u, us = [u] ∧ RelV x u
  | _, _, .cons r .nil => ⟨_, rfl, r⟩
theorem Vals.two : ∀ {x y : V} {us : List Value}, Vals [x, y] us → ∃ u v, us = [u, v] ∧ RelV x u ∧ RelV y v
  | _, _, _, .cons r (.cons q .nil) => ⟨_, _, rfl, r, q⟩
theorem Vals.zero : ∀ {us : List Value}, Vals [] us → us = []
  | _, .nil => rfl
theorem Vals.reverse {xs : List V} {us : List Value} (h : Vals xs us) : Vals xs.reverse us.reverse := by
  induction h with
  | nil => exact .nil
  | cons r t ih => rw [List.reverse_cons, List.reverse_cons]; exact Vals.append ih (.cons r .nil)
theorem Vals.rep {xs : List V} {us : List Value} (h : Vals xs us) : ∀ k : Nat, Vals (List.replicate k xs).flatten (List.replicate k us).flatten
  | 0 => .nil
  | k + 1 => by
    rw [List.replicate_succ, List.replicate_succ, List.flatten_cons, List.flatten_cons]
    exact Vals.append h (Vals.rep h k)
section
variable {X : Cx} {pins : List (Addr × Obj)} {σ : St} {H : Hp} {s : Shared} {l b : Addr} {xs ys zs : List V}

/-! ### the two steps: a tracked list is rewritten, a new list is laid -/
theorem Inv.lset {its its' : List Value} {n : Nat} {f : Array Value → Array Value} {t' : Nat} (I : Inv X pins σ H s) (hH : H l = some (.lst xs))
    (e : s.heap.get? l = some { cls := .type "list", data := .seq its.toArray n }) (hf : f its.toArray = its'.toArray) (hv : Vals ys its') (hz : ys.length ≤ sizeLine) :
    Inv X pins σ (upd H l (.lst ys)) { s with heap := s.heap.update l (Obj.mapSeq f), toks := t' } := by
  have q := PySem.IsL.update e f
  rw [hf] at q
  refine I.write (x := l) (e := l) (by rw [hH]; exact trivial) (.inl rfl) (fun b' u hb hu => (Heap.get?_update_other s.heap (Obj.mapSeq f) (Ne.symm hb)).trans hu) ⟨_, q⟩ ?_
  exact ⟨hz, its', _, hv, q⟩
theorem Inv.lnew {its : List Value} {t' : Nat} (I : Inv X pins σ H s) (hv : Vals ys its) (hz : ys.length ≤ sizeLine) :
    Inv X pins σ (upd H s.heap.objs.size (.lst ys)) { s with heap := s.heap.push { cls := .type "list", data := .seq its.toArray }, toks := t' } :=
  I.laid (fun _ _ q => Heap.get?_push_of_some _ q) (Nat.le_refl _) ⟨hz, its, 0, hv, Heap.get?_push_size _ rfl⟩
theorem Inv.fresh (I : Inv X pins σ H s) : H s.heap.objs.size = none := I.hok.fresh (Nat.le_refl _)
theorem Inv.lstM (I : Inv X pins σ H s) (hH : H l = some (.lst xs)) : xs.length ≤ sizeLine ∧ ∃ (its : List Value) (n : Nat), Vals xs its ∧ xs.length = its.length ∧ s.heap.get? l = some { cls := .type "list", data := .seq its.toArray n } := by
  obtain ⟨z, its, n, r, e⟩ := I.hok l _ hH
  exact ⟨z, its, n, r, r.length, e⟩

end

section
variable {X : Cx}

/-! ### methods -/
def rAppend : V → List V → Hp → VK → Prop := fun x vs H Q => ∃ l xs y, x = .ref l ∧ vs = [y] ∧ H l = some (.lst xs) ∧ xs.length < sizeLine ∧ Q .non (upd H l (.lst (xs ++ [y])))
theorem mt_append : MtM X "list.append" rAppend := by
  intro pins s σ H x vs v us Q I rx rv h
  obtain ⟨l, xs, y, rfl, rfl, hH, hz, q⟩ := h
  cases rx
  obtain ⟨u, rfl, ru⟩ := rv.one
  obtain ⟨z, its, n, r, hl, e⟩ := I.lstM hH
  refine call_meets F.slot_list_append ⟨_, e, rfl⟩ F.entry_list_append (F.args_list_append_2 _ _) (PySem.list_append l its.toArray n u (by rw [List.size_toArray]; omega)) ⟨e, ?_⟩
  refine ⟨.non, _, I.lset (its' := its ++ [u]) hH e (by simp) (r.append (.cons ru .nil)) ?_, rfl, q⟩
  rw [List.length_append, List.length_singleton]
  omega

end

/-! ### xs[a:b] = ys -/
section
variable {prog : Program} {w : World} {A : Around} {E : Value → Shared → Prop} {s : Shared}
end

section
variable {X : Cx}
end
end L2
namespace L2
open PySem PySem.Spec PyProof.Rows

/-! ### lists of pairs as tables -/
section
variable {κ : Type} [DecidableEq κ]
def valV (kvs : List (κ × V)) (k : κ) : Option V := (kvs.find? fun kv => decide (kv.1 = k)).map (·.2)
/-- in its place, or at the end -/
def putK (kvs : List (κ × V)) (k : κ) (v : V) : List (κ × V) :=
  if (kvs.any fun kv => decide (kv.1 = k)) = true then kvs.map (fun kv => if kv.1 = k then (kv.1, v) else kv) else kvs ++ [(k, v)]
def dropK (kvs : List (κ × V)) (k : κ) : List (κ × V) := kvs.filter fun kv => decide (kv.1 ≠ k)

theorem valV_pos {p : κ × V} {r : List (κ × V)} {k : κ} (e : p.1 = k) : valV (p :: r) k = some p.2 := by simp [valV, List.find?_cons, e]
theorem valV_neg {p : κ × V} {r : List (κ × V)} {k : κ} (e : ¬ p.1 = k) : valV (p :: r) k = valV r k := by simp [valV, List.find?_cons, e]
theorem RelO.getD {o : Option V} {u : Option Value} {d : V} {d' : Value} (r : RelO o u) (rd : RelV d d') : RelV (o.getD d) (u.getD d') := by
  cases o with
  | none => cases u with
    | none => exact rd
    | some _ => exact (show False from r).elim
  | some _ => cases u with
    | none => exact (show False from r).elim
    | some _ => exact r

/-- raw tables of the same keys -/
theorem KV.val {kvs : List (κ × V)} {vs : List (κ × Value)} (r : KV kvs vs) (k : κ) : RelO (valV kvs k) (valueAt vs k) := by
  unfold KV at r
  induction r with
  | nil => exact True.intro
  | @cons p q ps qs h t ih =>
    obtain ⟨h1, h2⟩ := h
    by_cases e : p.1 = k
    · have e' : q.1 = k := h1.symm.trans e
      have b : valueAt (q :: qs) k = some q.2 := by simp [valueAt, List.find?_cons, e']
      rw [valV_pos e, b]; exact h2
    · have e' : ¬ q.1 = k := fun z => e (h1.trans z)
      have b : valueAt (q :: qs) k = valueAt qs k := by simp [valueAt, List.find?_cons, e']
      rw [valV_neg e, b]; exact ih
theorem KV.any {kvs : List (κ × V)} {vs : List (κ × Value)} (r : KV kvs vs) (k : κ) : (kvs.any fun kv => decide (kv.1 = k)) = vs.any fun kv => decide (kv.1 = k) := by
  unfold KV at r
  induction r with
  | nil => rfl
  | cons h t ih => rw [List.any_cons, List.any_cons, ih, h.1]
theorem KV.drop {kvs : List (κ × V)} {vs : List (κ × Value)} (r : KV kvs vs) (k : κ) : KV (dropK kvs k) (without vs k) := by
  unfold KV at r ⊢
  unfold dropK without
  induction r with
  | nil => exact .nil
  | @cons p q ps qs h t ih =>
    obtain ⟨h1, h2⟩ := h
    rw [List.filter_cons, List.filter_cons]
    by_cases e : p.1 = k
    · have a : ¬ decide (p.1 ≠ k) = true := by simp [e]
      have b : ¬ decide (q.1 ≠ k) = true := by simp [h1.symm.trans e]
      rw [if_neg a, if_neg b]; exact ih
    · have e' : ¬ q.1 = k := fun z => e (h1.trans z)
      have a : decide (p.1 ≠ k) = true := by simp [e]
      have b : decide (q.1 ≠ k) = true := by simp [e']
      rw [if_pos a, if_pos b]; exact .cons ⟨h1, h2⟩ ih
theorem KV.keys {kvs : List (κ × V)} {vs : List (κ × Value)} (r : KV kvs vs) : kvs.map (·.1) = vs.map (·.1) := by
  unfold KV at r
  induction r with
  | nil => rfl
  | cons h t ih => rw [List.map_cons, List.map_cons, ih, h.1]
theorem KV.length {kvs : List (κ × V)} {vs : List (κ × Value)} (r : KV kvs vs) : kvs.length = vs.length := Paired.length r
end

/-- raw entries of a dict with tuple keys -/
abbrev KT (H : Hp) : List (List Key × V) → List (List Key × Addr × Value) → Prop := Paired fun p q => p.1 = q.1 ∧ H q.2.1 = some (.tup (p.1.map kV)) ∧ RelV p.2 q.2.2
theorem KT.val {H : Hp} {kvs : List (List Key × V)} {xs : List (List Key × Addr × Value)} (r : KT H kvs xs) (k : List Key) : RelO (valV kvs k) ((atKey xs k).map (·.2)) := by
  induction r with
  | nil => exact True.intro
  | @cons p q ps qs h t ih =>
    obtain ⟨h1, _, h2⟩ := h
    by_cases e : p.1 = k
    · have e' : q.1 = k := h1.symm.trans e
      have b : atKey (q :: qs) k = some q.2 := by simp [atKey, List.find?_cons, e']
      rw [valV_pos e, b]; exact h2
    · have e' : ¬ q.1 = k := fun z => e (h1.trans z)
      have b : atKey (q :: qs) k = atKey qs k := by simp [atKey, List.find?_cons, e']
      rw [valV_neg e, b]; exact ih
theorem KT.keeps {H H' : Hp} {kvs : List (List Key × V)} {xs : List (List Key × Addr × Value)} (r : KT H kvs xs) (ht : ∀ b ys, H b = some (.tup ys) → H' b = some (.tup ys)) : KT H' kvs xs :=
  Paired.mapP r fun _ _ z => ⟨z.1, ht _ _ z.2.1, z.2.2⟩

section
variable {P : Program} {w : World} {H : Hp} {h : Heap} {a : Addr}
end

/-- what the dict at a holds at the key y -/
def DGet (H : Hp) (a : Addr) (y : V) (r : Option V) : Prop :=
  (∃ kvs k, Rd H a (.dK kvs) ∧ y = kV k ∧ r = valV kvs k) ∨ ∃ kvs k b, Rd H a (.dT kvs) ∧ y = .ref b ∧ H b = some (.tup (k.map kV)) ∧ r = valV kvs k
/-- the heap behind a[y] = v -/
def DPut (H : Hp) (a : Addr) (y v : V) (H' : Hp) : Prop :=
  (∃ kvs k, H a = some (.dK kvs) ∧ y = kV k ∧ kvs.length < sizeLine ∧ H' = upd H a (.dK (putK kvs k v))) ∨
  ∃ kvs k b, H a = some (.dT kvs) ∧ y = .ref b ∧ H b = some (.tup (k.map kV)) ∧ kvs.length < sizeLine ∧ H' = upd H a (.dT (putK kvs k v))
theorem DGet.k {H : Hp} {a : Addr} {kvs : List (Key × V)} {k : Key} (e : H a = some (.dK kvs)) : DGet H a (kV k) (valV kvs k) := .inl ⟨kvs, k, .inl e, rfl, rfl⟩
theorem DGet.t {H : Hp} {a b : Addr} {kvs : List (List Key × V)} {k : List Key} (e : H a = some (.dT kvs)) (eb : H b = some (.tup (k.map kV))) : DGet H a (.ref b) (valV kvs k) := .inr ⟨kvs, k, b, .inl e, rfl, eb, rfl⟩
theorem DPut.k {H : Hp} {a : Addr} {kvs : List (Key × V)} {k : Key} {v : V} (e : H a = some (.dK kvs)) (hl : kvs.length < sizeLine) : DPut H a (kV k) v (upd H a (.dK (putK kvs k v))) := .inl ⟨kvs, k, e, rfl, hl, rfl⟩
theorem DPut.t {H : Hp} {a b : Addr} {kvs : List (List Key × V)} {k : List Key} {v : V} (e : H a = some (.dT kvs)) (eb : H b = some (.tup (k.map kV))) (hl : kvs.length < sizeLine) :
    DPut H a (.ref b) v (upd H a (.dT (putK kvs k v))) := .inr ⟨kvs, k, b, e, rfl, eb, hl, rfl⟩

section
variable {X : Cx} {pins : List (Addr × Obj)} {σ : St} {H : Hp} {s : Shared} {a : Addr} {y v : V} {u r : Value} {o : Option V} {A : Around} {E : Value → Shared → Prop}

end

section
variable {X : Cx} {pins : List (Addr × Obj)} {σ : St} {H : Hp} {s : Shared} {a : Addr} {kvs : List (Key × V)} {k : Key} {u : Value} {A : Around} {E : Value → Shared → Prop}
end

section
variable {X : Cx} {o i e value : Expr} {pos pos' tpos : Pos} {td ty tv : TE}
end

section
variable {X : Cx} {pos : Pos}
end

section
variable {X : Cx} {pins : List (Addr × Obj)} {σ : St} {H : Hp} {s : Shared} {a : Addr} {y d : V} {u r : Value} {o : Option V} {A : Around} {E : Value → Shared → Prop}
end

section
variable {X : Cx} {o e f : Expr} {apos cpos : Pos} {td ty tx : TE}
end

/-! ### dict(d): a copy -/
section
variable {X : Cx} {pins : List (Addr × Obj)} {σ : St} {H : Hp} {s : Shared} {a : Addr} {kvs : List (Key × V)} {A : Around} {E : Value → Shared → Prop}
end

section
variable {X : Cx} {pins : List (Addr × Obj)} {σ : St} {H : Hp} {s : Shared} {a : Addr} {y : V} {u : Value} {A : Around} {E : Value → Shared → Prop}
end
end L2

namespace Att
open PySem PySem.W PySem.Calls PyProof.Rows

/-! ### the script -/
theorem ints_of_wellAll {P : Params} {h : Heap} : ∀ (ns : List Int) (vs : List Value), WellAll P h vs (ns.map WData.int) → IntsAre vs ns := by
  intro ns
  induction ns with
  | nil =>
    intro vs w
    rw [List.map_nil] at w
    cases w
    exact .nil
  | cons n ns ih =>
    intro vs w
    rw [List.map_cons] at w
    cases w with
    | cons a b =>
      cases a
      exact .cons _ _ (ih _ b)

theorem script_of {l : OpenLaw} {n : Nat} (hn : l.most = some n) {P : Params} {h : Heap} {args : List WData} {vals : List Value}
    (hpre : l.row.toRowW.claim.pre args = true) (hwl : WellAll P h vals args) :
    ∃ a vs ns, vals = [Value.ref a] ∧ args = [WData.list (ns.map WData.int)] ∧ h.get? a = some { cls := .type "list", data := .seq vs.toArray } ∧ IntsAre vs ns ∧ ns.length ≤ n := by
  have hsh : WShape.hasAll [] args [.list .int] = true := (pre_splitW hpre).1
  have hc : l.pre.holds [] { args := args } = true := (pre_splitW hpre).2
  obtain ⟨d, r, rfl, h1, h2⟩ := hasAllW_cons hsh
  obtain rfl := hasAllW_nil h2
  obtain ⟨xs, rfl, h3⟩ := hasW_list h1
  obtain ⟨ns, rfl⟩ := items_int h3
  have hlen : ns.length ≤ n := by
    unfold OpenLaw.pre at hc
    have h4 : (WTm.not (.lt (.lit (.int (n : Int))) (.len (.arg 0)))).holds [] { args := [.list (ns.map .int)] } = true := by
      have h4 := (holds_andW hc).1
      rw [hn] at h4
      exact h4
    have h5 := condW_of h4 (w_not (w_lt w_lit (w_len_list (w_arg rfl))))
    rw [List.length_map] at h5
    refine Nat.le_of_not_lt fun q => ?_
    have q' : (n : Int) < ((ns.length : Nat) : Int) := by omega
    first
      | (rw [decide_eq_true q'] at h5; exact absurd h5 (by decide))
      | (simp at h5; omega)
  cases hwl with
  | cons w1 w2 =>
    cases w2
    cases w1 with
    | list ho hall => exact ⟨_, _, ns, rfl, rfl, ho, ints_of_wellAll ns _ hall, hlen⟩

theorem post_true (l : OpenLaw) (args : List WData) : l.row.toRowW.claim.post args (.bool true) args = true :=
  postW_of (r := l.row.toRowW) (X := (true == true))
    (show WShape.has [] (.bool true) .bool = true by first | rfl | decide | simp [WShape.has, WShape.arms, WShape.armsAll])
    (show (WTm.eq .res (.lit (.bool true))).value [] { args := args, res := some (.bool true), after := args } = some (.bool (true == true)) from w_eq_bool (w_res rfl) w_lit) rfl

/-- the same from a codeAny of the CALL (for a layer whose function contracts speak of calls) -/
theorem attach_call {l : OpenLaw} {n : Nat} {q : Program} {loose : List Str} {XP : (Str → Option Value) → Heap → Prop} {YP : World → Heap → Prop} {d : DefRec}
    (hn : l.most = some n) (hdf : d.params.defaults = [])
    (call : ∀ (w : World) (s₀ s₁ : Shared) (mg mb : Str → Option Value) (fa : Addr) (o : Obj) (pm cd doc : Value) (a : Addr) (vs : List Value) (ns : List Int),
      Ground q loose [] XP w s₀ mg mb s₁.heap → YP w s₁.heap →
      s₁.heap.get? fa = some o → o.data = .func (docDef d.name d.params d.body d.scope pm cd doc) → s₁.heap.CodeRec cd d.name → mg d.name = some (.ref fa) →
      s₁.heap.get? a = some { cls := .type "list", data := .seq vs.toArray } → IntsAre vs ns → ns.length ≤ n → s₁.gens = #[] →
      codeAny (model l.prog w) callerA (.call (.ref fa) ⟨[.ref a], []⟩) (fun r s' => r = .ok (.ret (.bool true)) ∧ OldK s₁.heap s'.heap ∧ s'.os = s₁.os ∧ AllBare s'.gens) s₁) :
    WalkO q loose XP YP l.row.toRowW d [] (fun f vs => PySem.call f vs) := by
  intro w s₀ s₁ mg mb G Y fa o pm cd doc dV kV ho hd hcd hD hmg hg args vals as hpre hlay hrd hwl hlo
  obtain rfl : dV = .none := Dflts.none hD hdf
  obtain rfl : kV = .none := Dflts.noKw hD
  obtain ⟨a, vs, ns, rfl, rfl, hobj, hints, hlen⟩ := script_of hn hpre hwl
  refine enter_call (codeAny_mono (call w s₀ s₁ mg mb fa o pm cd doc a vs ns G Y ho (fd_plain hd) hcd hmg hobj hints hlen hg) fun r s' hq => ?_)
  obtain ⟨rfl, h2, h3, h4⟩ := hq
  exact ⟨.inl ⟨.bool true, .bool true, [], rfl, fun _ => rfl, .bool true, post_true l _, fun _ => ⟨List.Pairwise.nil, fun _ hm => (nomatch hm)⟩⟩, h2, h3, h4⟩

/-! ### rules over ANY heap (no ledger) from facts about the written part K: the library's own take a ledger (News) for what they write -/
section
variable {prog : Program} {w : World} {A : Around} {E : Value → Shared → Prop} {s : Shared} {K : Frag}

def ledger (h : Heap) (L d : Addr) : List (Addr × Obj) := (List.range h.objs.size).filterMap fun a => if a = L ∨ a = d then none else (h.get? a).map fun o => (a, o)
end
end Att

namespace L2
open PySem PySem.Spec PyProof.Rows

theorem vals_ints : ∀ {vs : List Value} {ns : List Int}, IntsAre vs ns → Vals (ns.map V.int) vs
  | _, _, .nil => .nil
  | _, _, .cons n t h => .cons ⟨t, rfl⟩ (vals_ints h)

/-- nothing is tracked but the script, known to the object (or it is an object of the module) -/
def Only (H : Hp) : Prop := ∀ b, H b = none ∨ ∃ o xs, H b = some (.frz o (.lst xs))

/-- THE HEAD: the law's promise, at the heap behind the top. F, the promise of the law's def, may use that base is part of the heap (so K.In base, base.Ns mainGlobals mg stand in Mod) -/
theorem law_call {P : Program} {w : World} {K : PySem.W.Frag} {mg mb : Str → Option Value} {CX : CXT} {k : Nat} {fa a : Addr} {fd : FuncData} {x : Str} {sp : Sp} {s₁ : Shared} {vs : List Value} {ns : List Int}
    (KX : K.In s₁.heap) (hns : s₁.heap.Ns mainGlobals mg) (hb : s₁.heap.Ns builtinsNs mb) (hbb : ∀ x : Str, x ≠ "__name__" → mb x = bootBuiltins x) (hlim : s₁.heap.NoLimit) (hg : s₁.gens = #[])
    (ha : s₁.heap.get? a = some { cls := .type "list", data := .seq vs.toArray }) (hi : IntsAre vs ns) (hl : ns.length ≤ sizeLine) (hr : Room k callerA)
    (F : ∀ base : Heap, K.In base → base.Ns mainGlobals mg → FnOk P w K mg base CX k fa fd [x] sp) (hbind : ∀ (s : Shared) (u : Value), BindsTo s fd ⟨[u], []⟩ [(x, u)])
    (hsp : ∀ H : Hp, Only H → SqL K H a (ns.map V.int) → sp [.ref a] H (fun v _ => v = .bl true) fun _ _ _ => False)
    (hCX : ∀ H e s', CX [] H s₁ (fun _ _ _ => False) e s' → False) :
    codeAny (model P w) callerA (.call (.ref fa) ⟨[.ref a], []⟩) (fun r s' => r = .ok (.ret (.bool true)) ∧ OldK s₁.heap s'.heap ∧ s'.os = s₁.os ∧ AllBare s'.gens) s₁ := by
  have rv := vals_ints hi
  have lenV := hi.length
  -- from an abstract heap in which nothing but the script may be tracked
  have core : ∀ H : Hp, Only H → SqL K H a (ns.map V.int) → HOk P w H s₁.heap → (∀ b, H b ≠ none → b = a) → (H a ≠ none → K.lookup a = none) →
      codeAny (model P w) callerA (.call (.ref fa) ⟨[.ref a], []⟩) (fun r s' => r = .ok (.ret (.bool true)) ∧ OldK s₁.heap s'.heap ∧ s'.os = s₁.os ∧ AllBare s'.gens) s₁ := by
    intro H hO hS hok hA hK
    have base_of : ∀ {b : Addr} {o : Obj}, s₁.heap.get? b = some o → H b = none → (hidT s₁.heap H).get? b = some o := fun e n => hidT_get e n
    have noA : ∀ {b : Addr} {o : Obj} {es : Array DictEntry} {ep : Nat}, s₁.heap.get? b = some o → o.data = .dict es ep → H b = none := fun {b o es ep} e d => by
      cases q : H b with
      | none => rfl
      | some u =>
        have e' : b = a := hA b (by rw [q]; simp)
        subst e'
        rw [ha] at e; cases e
        have d' : Data.seq vs.toArray _ = Data.dict es ep := d
        cases d'
    have nsK : ∀ {b : Addr} {m : Str → Option Value}, s₁.heap.Ns b m → (hidT s₁.heap H).Ns b m := fun {b m} ⟨o, es, ep, e, d, r⟩ => ⟨o, es, ep, base_of e (noA e d), d, r⟩
    have hKb : K.In (hidT s₁.heap H) := fun b o e => base_of (KX b o e) (by
      cases q : H b with
      | none => rfl
      | some u =>
        have e' : b = a := hA b (by rw [q]; simp)
        subst e'
        rw [hK (by rw [q]; simp)] at e; cases e)
    have hM : Mod K mg (hidT s₁.heap H) := ⟨hKb, nsK hns, ⟨mb, nsK hb, hbb⟩, let ⟨mc, h1, h2⟩ := hlim; ⟨mc, nsK h1, h2⟩⟩
    have e0 : Env0 P w K mg (hidT s₁.heap H) callerA [] s₁ H := ⟨rfl, hM, fun b o e => of_hidT e, Nat.le_of_eq (hidT_size _ _), trivial, fun b hb => absurd (show b ∈ ([] : List Addr) from hb) (by simp), hok, .of_eq hg⟩
    refine codeAny_mono ((F _ hKb (nsK hns)).run callerA [] s₁ H ⟨[.ref a], []⟩ [.ref a] [.ref a] _ _ hr e0 (hbind s₁ (.ref a)) (.cons rfl .nil) (hsp H hO hS)) fun r s' h => ?_
    cases r with
    | error e => exact (hCX H e s' h).elim
    | ok fl =>
      cases fl with
      | next => exact False.elim h
      | brk => exact False.elim h
      | cont => exact False.elim h
      | ret u =>
        obtain ⟨v, H', os, bare, un, hok', r', q⟩ := h
        have q' : v = .bl true := q
        subst q'
        obtain rfl : u = Value.bool true := r'
        refine ⟨rfl, OldK.of_keep fun b o e => ?_, os, bare⟩
        cases q : H b with
        | none => exact un.keep b o e q (by intro z; exact absurd (show b ∈ ([] : List Addr) from z) (by simp)) (by simp)
        | some u =>
          rcases hO b with z | ⟨ob, xs, z⟩
          · rw [q] at z; cases z
          · have z2 := un.frzs b ob _ z
            obtain ⟨e1, _⟩ := hok b _ z
            obtain ⟨e2, _⟩ := hok' b _ z2
            rw [e] at e1; cases e1
            exact e2
  cases hk : K.lookup a with
  | some o =>
    -- the script is one of the module's own objects
    have e := KX a o hk
    rw [ha] at e
    cases e
    refine core (fun _ => none) (fun _ => .inl rfl) (.inr ⟨_, vs.toArray, _, hk, rfl, rfl, rfl, by rw [List.size_toArray, lenV]; exact hl, by simpa using rv⟩) (fun b u z => by have z' : (none : Option HO) = some u := z; cases z') (fun b z => absurd rfl z) fun z => absurd rfl z
  | none =>
    refine core (fun b => if b = a then some (.frz { cls := .type "list", data := .seq vs.toArray } (.lst (ns.map V.int))) else none) (fun b => ?_) (.inl (.inr ⟨{ cls := .type "list", data := .seq vs.toArray }, if_pos rfl⟩)) (fun b u z => ?_) (fun b z => ?_) fun _ => hk
    · by_cases hb : b = a
      · exact .inr ⟨_, _, if_pos hb⟩
      · exact .inl (if_neg hb)
    · by_cases hb : b = a
      · have z' := (if_pos hb).symm.trans z
        cases z'
        subst hb
        exact ⟨ha, by rw [List.length_map]; exact hl, vs, _, rv, ha⟩
      · have z' := (if_neg hb).symm.trans z
        cases z'
    · by_cases hb : b = a
      · exact hb
      · exact absurd (if_neg hb) z
end L2

namespace L2
open PySem PySem.Spec PyProof.Rows

abbrev KOf {K : PySem.W.Frag} {h : Heap} (_ : K.In h) : PySem.W.Frag := K

/-- the goal that k_head leaves (case hc), from the law's promise. F gives the function object fd (K's own) once, then the promise over every base -/
theorem walk_of {l : PySem.W.OpenLaw} {n k : Nat} {q : Program} {loose : List Str} {XP : (Str → Option Value) → Heap → Prop} {YP : World → Heap → Prop} {d : DefRec} {K : Params → PySem.W.Frag} {CX : World → CXT} {sp : World → Sp} {x : Str}
    (hn : l.most = some n) (hn2 : n ≤ sizeLine) (hdf : d.params.defaults = []) (hr : Room k callerA)
    (hY : ∀ (w : World) (h : Heap), YP w h → (K w.params).In h)
    (F : ∀ (w : World) (mg : Str → Option Value) (fa : Addr) (h : Heap), (K w.params).In h → h.Ns mainGlobals mg → mg d.name = some (.ref fa) →
      ∃ fd : FuncData, (∀ (s : Shared) (u : Value), BindsTo s fd ⟨[u], []⟩ [(x, u)]) ∧
        ∀ base : Heap, (K w.params).In base → base.Ns mainGlobals mg → FnOk l.prog w (K w.params) mg base (CX w) k fa fd [x] (sp w))
    (hsp : ∀ (w : World) (H : Hp) (a : Addr) (ns : List Int), ns.length ≤ n → Only H → SqL (K w.params) H a (ns.map V.int) → sp w [.ref a] H (fun v _ => v = .bl true) fun _ _ _ => False)
    (hCX : ∀ (w : World) (H : Hp) (s : Shared) (e : Value) (s' : Shared), CX w [] H s (fun _ _ _ => False) e s' → False) :
    PySem.W.WalkO q loose XP YP l.row.toRowW d [] (fun f vs => PySem.call f vs) := by
  refine Att.attach_call hn hdf fun w s₀ s₁ mg mb fa o pm cd doc a vs ns G Y ho hd hcd hmg hobj hints hlen hg => ?_
  have KX := hY w _ Y
  obtain ⟨fd, hb, hF⟩ := F w mg fa _ KX G.T.g hmg
  exact law_call KX G.T.g G.T.b G.T.builtins G.T.nolimit hg hobj hints (Nat.le_trans hlen hn2) hr hF hb (fun H hO hS => hsp w H a ns hlen hO hS) fun H e s' => hCX w H s₁ e s'
end L2

/- THE LAST THEOREM (shape; LID, My.* are yours):
   My.Adr: a structure of the addresses that your layer names (classes, functions); My.Txt K t: a structure (Prop) of the equations over K;
   My.txt_mk : {K} {implicit addresses ..} (e1 : nsIn K mainGlobals "law" = some (some (.ref f))) (e2 : K.lookup f = some ⟨oc, od, .func (fnOf "law" "law" params body scope dV kV doc pm an cdv ct), sl⟩) (e3 : codeIn K cdv "law" = true) .. : ∃ t, My.Txt K t

set_option maxRecDepth 100000 in
set_option maxHeartbeats 0 in
theorem PySem.Challenge.cw_LID_holds : PySem.Challenge.rw_LID.Holds := by
  w_on; o_law; k_head; (case hw => w_witness2)
  k_fill
  refine L2.walk_of (l := PySem.Challenge.rw_LID) (n := 63) (k := 40) (x := "script") (CX := fun w => ..) (sp := fun _ => My.sp_law) rfl (by decide) rfl ⟨rfl, by decide, by decide⟩ (fun w h Y => PySem.W.kIn_of Y) ?F ?S ?C
  case F =>
    intro w mg fa h KX G hmg
    have T : ∃ t, My.Txt (L2.KOf KX) t := by
      dsimp only [L2.KOf]                          -- K must stand as «<heap const> w.params» for k_is
      refine' My.txt_mk ?e1 ?e2 ?e3 ..
      (case e1 => PySem.W.k_is)                    -- in the order: a name -> its address -> its object -> its parts
      (case e2 => PySem.W.k_is)
      ..
    obtain ⟨t, T⟩ := T
    have e0 := hmg.symm.trans (PySem.W.mg_of KX G T.law)
    cases e0                                       -- fa is the law's own address
    exact ⟨_, fun s u => .of_eq rfl, fun base kb nb => My.law_fn T kb nb⟩     -- if «.of_eq rfl» comes too early: refine' ⟨_, ?b, fun base kb nb => My.law_fn T kb nb⟩; exact fun s u => .of_eq rfl
  case S => exact fun w H a ns hl hO hS => ..
  case C => exact ..
(the tactic k_is has no namespace: write k_is) -/

/-! SHORT WORDS over the layer: a def of the text, its body, what a loop and a test want. -/
namespace L2
open PySem PySem.Spec PyProof.Rows

def defArgs (s : Stmt) : Arguments := match s with
  | .FunctionDef _ a _ _ _ _ _ _ _ _ => a
  | _ => { posonlyargs := [], args := [], vararg := none, kwonlyargs := [], kw_defaults := [], kwarg := none, defaults := [] }
def defBody (s : Stmt) : List Stmt := match s with
  | .FunctionDef _ _ b _ _ _ _ _ _ _ => b
  | _ => []
def defScope (s : Stmt) : Scope := match s with
  | .FunctionDef _ _ _ _ _ _ sc _ _ _ => sc
  | _ => { kind := .function, names := [], isGenerator := false, isCoroutine := false }

/-! ### no exception leaves a def -/
abbrev CX0 : CXT := fun _ _ _ _ _ _ => False
abbrev E0 : XK := fun _ _ _ => False
theorem pass0 {X : Cx} : Passes CX0 X E0 := fun _ _ _ _ _ _ _ h => h.elim

/-! ### a def (or method) of the text as it stands behind the top -/
structure Fun (K : PySem.W.Frag) (x qual : Str) (st : Stmt) (f : Addr) (fd : FuncData) : Prop where
  ex : ∃ (oc : Value) (od : Option Addr) (kV doc pm : Value) (an : Option Addr) (cdv ct : Value) (osl : Array (Option Value)),
    fd = PySem.W.fnOf x qual (defArgs st) (defBody st) (defScope st) .none kV doc pm an cdv ct ∧ K.lookup f = some ⟨oc, od, .func fd, osl⟩ ∧ PySem.W.codeIn K cdv qual = true
  kp : PySem.W.keepIn K (.ref f) = true
section
variable {P : Program} {w : World} {K : PySem.W.Frag} {mg : Str → Option Value} {base : Heap}
/-- THE RULE for a def: its body as a term of rules, and the reading of that term -/
theorem Fun.ok {x qual : Str} {st : Stmt} {f : Addr} {fd : FuncData} {N ps : List Str} {k : Nat} {sp : Sp} (F : Fun K x qual st f fd) (S : FnScope N ps (defScope st)) (len : ∀ vs H Q E, sp vs H Q E → vs.length = ps.length)
    (hbody : ∀ (cdv : Value) (A : Around) (outer : List Env) (s : Shared) (H : Hp) (vs : List V) (Q : VK) (E : XK), Room k (A.deeper (envOfC qual (defScope st) s.heap.objs.size f cdv)) → sp vs H Q E →
      ∃ t, PSs (cxOf CX0 P w K mg base N qual (defScope st) f cdv A outer s H E).nox (defBody st) t ∧ t { nx := fun _ H' => Q .non H', rt := Q } (start N vs) H) : FnOk P w K mg base CX0 (k + 1) f fd ps sp := by
  obtain ⟨oc, od, kV, doc, pm, an, cdv, ct, osl, rfl, lk, hcd⟩ := F.ex
  refine fn_of lk hcd S len fun A outer s H vs Q E hr hsp => ?_
  obtain ⟨t, h, q⟩ := hbody cdv A outer s H vs Q E hr hsp
  exact ⟨t, h.nox, q⟩
/-- how its arguments bind (no defaults): h is «fun _ _ _ _ _ _ us hl => match us, hl with | [_, _], _ => rfl», one _ a parameter -/
theorem Fun.binds {x qual : Str} {st : Stmt} {f : Addr} {fd : FuncData} {ps : List Str} (F : Fun K x qual st f fd)
    (h : ∀ (kV doc pm : Value) (an : Option Addr) (cdv ct : Value) (us : List Value), us.length = ps.length → bindArgs (PySem.W.fnOf x qual (defArgs st) (defBody st) (defScope st) .none kV doc pm an cdv ct) ⟨us, []⟩ = pure (ps.zip us)) : Binds K fd ps [] := by
  obtain ⟨oc, od, kV, doc, pm, an, cdv, ct, osl, rfl, lk, hcd⟩ := F.ex
  exact .all (h kV doc pm an cdv ct)
theorem fun_mk {x qual : Str} {st : Stmt} {f : Addr} {oc : Value} {od an : Option Addr} {osl : Array (Option Value)} {kV doc pm cdv ct : Value} (l : K.lookup f = some ⟨oc, od, .func (PySem.W.fnOf x qual (defArgs st) (defBody st) (defScope st) .none kV doc pm an cdv ct), osl⟩)
    (c : PySem.W.codeIn K cdv qual = true) (k : PySem.W.keepIn K (.ref f) = true) : Fun K x qual st f (PySem.W.fnOf x qual (defArgs st) (defBody st) (defScope st) .none kV doc pm an cdv ct) := ⟨⟨oc, od, kV, doc, pm, an, cdv, ct, osl, rfl, l, c⟩, k⟩
end
theorem hu_of {A : Around} {k : Nat} (hr : Room k A) : A.units + 1 < cLine := Nat.lt_of_le_of_lt (Nat.add_le_add_left (by decide : 1 ≤ 64) _) hr.units
theorem small1000 {n : Nat} (h : n ≤ 1000) : n < sizeLine := Nat.lt_of_le_of_lt h (by decide)

/-! ### expressions in short: the name that stands in the i-th slot -/
section
variable {X : Cx}
theorem pv (i : Nat) {x : Str} {pos : Pos} (hN : X.N[i]? = some x := by rfl) (hv : Vis X.env.scope x := by first | exact Or.inl rfl | exact Or.inr (Or.inl rfl) | exact Or.inr (Or.inr rfl)) (hd : (x == ("__debug__" : Str)) = false := by decide)
    (hcd : (x == ("__classdict__" : Str)) = false := by decide) : PE X (.Name x pos) (tVar i) := pe_var hN hv hd hcd
end

/-! ### heaps -/
/-- all that was tracked is as it was -/
def Same (H H' : Hp) : Prop := ∀ b o, H b = some o → H' b = some o
theorem Same.refl (H : Hp) : Same H H := fun _ _ h => h
theorem Same.trans {H H1 H2 : Hp} (a : Same H H1) (b : Same H1 H2) : Same H H2 := fun c o h => b c o (a c o h)
theorem Same.free {H H' : Hp} (e : Same H H') {l : Addr} (h : H' l = Option.none) : H l = Option.none := by
  cases q : H l with
  | none => rfl
  | some o =>
    rw [e l o q] at h
    cases h
theorem Same.seq {K : PySem.W.Frag} {H H' : Hp} {a : Addr} {xs : List V} (e : Same H H') (h : SqL K H a xs) : SqL K H' a xs := by
  rcases h with (h | ⟨o, h⟩) | h
  · exact .inl (.inl (e _ _ h))
  · exact .inl (.inr ⟨o, e _ _ h⟩)
  · exact .inr h

end L2

namespace L2
open PySem PySem.Spec PyProof.Rows
/-! ### a dict's pairs: keys that differ -/
section
variable {κ : Type} [DecidableEq κ]
end
end L2

set_option Elab.async false
set_option linter.all false
set_option maxRecDepth 100000
namespace RD
open PySem PySem.Spec PyProof.Rows L2

/-! # values as trees, over the abstract heap -/
inductive D where
  | non | bl (b : Bool) | int (i : Int) | str (x : Str) | tup (xs : List D) | lst (xs : List D)

section
variable (K : PySem.W.Frag) (G : Hp)
mutual
def Rep : D → V → Prop
  | .non, v => v = .non
  | .bl b, v => v = .bl b
  | .int i, v => v = .int i
  | .str x, v => v = .str x
  | .tup ds, v => ∃ a vs, v = .ref a ∧ SqT K G a vs ∧ Reps ds vs
  | .lst ds, v => ∃ a vs, v = .ref a ∧ SqL K G a vs ∧ Reps ds vs
def Reps : List D → List V → Prop
  | [], vs => vs = []
  | d :: ds, vs => ∃ v r, vs = v :: r ∧ Rep d v ∧ Reps ds r
end
end

theorem same_tup {K : PySem.W.Frag} {H H' : Hp} {a : Addr} {xs : List V} (e : Same H H') (h : SqT K H a xs) : SqT K H' a xs := by
  rcases h with (h | ⟨o, h⟩) | h
  · exact .inl (.inl (e _ _ h))
  · exact .inl (.inr ⟨o, e _ _ h⟩)
  · exact .inr h

mutual
theorem Rep.mono {K : PySem.W.Frag} {G G' : Hp} (s : Same G G') : ∀ (d : D) (v : V), Rep K G d v → Rep K G' d v
  | .non, _, h => by simpa [Rep] using h
  | .bl _, _, h => by simpa [Rep] using h
  | .int _, _, h => by simpa [Rep] using h
  | .str _, _, h => by simpa [Rep] using h
  | .tup ds, _, h => by
    simp only [Rep] at h ⊢
    obtain ⟨a, vs, e, q, r⟩ := h
    exact ⟨a, vs, e, same_tup s q, Reps.mono s ds vs r⟩
  | .lst ds, _, h => by
    simp only [Rep] at h ⊢
    obtain ⟨a, vs, e, q, r⟩ := h
    exact ⟨a, vs, e, s.seq q, Reps.mono s ds vs r⟩
theorem Reps.mono {K : PySem.W.Frag} {G G' : Hp} (s : Same G G') : ∀ (ds : List D) (vs : List V), Reps K G ds vs → Reps K G' ds vs
  | [], _, h => by simpa [Reps] using h
  | d :: ds, _, h => by
    simp only [Reps] at h ⊢
    obtain ⟨v, r, e, a, b⟩ := h
    exact ⟨v, r, e, Rep.mono s d v a, Reps.mono s ds r b⟩
end

section
variable {K : PySem.W.Frag} {G : Hp}
theorem rep_non {v : V} : Rep K G .non v ↔ v = .non := by simp [Rep]
theorem rep_bl {b : Bool} {v : V} : Rep K G (.bl b) v ↔ v = .bl b := by simp [Rep]
theorem rep_int {i : Int} {v : V} : Rep K G (.int i) v ↔ v = .int i := by simp [Rep]
theorem rep_str {x : Str} {v : V} : Rep K G (.str x) v ↔ v = .str x := by simp [Rep]
theorem rep_tup {ds : List D} {v : V} : Rep K G (.tup ds) v ↔ ∃ a vs, v = .ref a ∧ SqT K G a vs ∧ Reps K G ds vs := by simp only [Rep]
theorem rep_lst {ds : List D} {v : V} : Rep K G (.lst ds) v ↔ ∃ a vs, v = .ref a ∧ SqL K G a vs ∧ Reps K G ds vs := by simp only [Rep]
theorem reps_nil {vs : List V} : Reps K G [] vs ↔ vs = [] := by simp only [Reps]
theorem reps_cons {d : D} {ds : List D} {vs : List V} : Reps K G (d :: ds) vs ↔ ∃ v r, vs = v :: r ∧ Rep K G d v ∧ Reps K G ds r := by simp only [Reps]
theorem Reps.nil : Reps K G [] [] := reps_nil.mpr rfl
theorem Reps.cons {d : D} {ds : List D} {v : V} {vs : List V} (h : Rep K G d v) (t : Reps K G ds vs) : Reps K G (d :: ds) (v :: vs) := reps_cons.mpr ⟨v, vs, rfl, h, t⟩
theorem Reps.inv {d : D} {ds : List D} {v : V} {vs : List V} (h : Reps K G (d :: ds) (v :: vs)) : Rep K G d v ∧ Reps K G ds vs := by
  obtain ⟨v', r, e, a, b⟩ := reps_cons.mp h
  cases e
  exact ⟨a, b⟩
theorem Reps.length : ∀ {ds : List D} {vs : List V}, Reps K G ds vs → ds.length = vs.length
  | [], vs, h => by rw [reps_nil.mp h]; rfl
  | d :: ds, vs, h => by
    obtain ⟨v, r, rfl, _, t⟩ := reps_cons.mp h
    rw [List.length_cons, List.length_cons, Reps.length t]
theorem Reps.get : ∀ {ds : List D} {vs : List V} {i : Nat} {d : D}, Reps K G ds vs → ds[i]? = some d → ∃ v, vs[i]? = some v ∧ Rep K G d v
  | [], _, _, _, _, e => by simp at e
  | d :: ds, vs, 0, d', h, e => by
    obtain ⟨v, r, rfl, a, _⟩ := reps_cons.mp h
    simp at e; subst e
    exact ⟨v, rfl, a⟩
  | d :: ds, vs, i + 1, d', h, e => by
    obtain ⟨v, r, rfl, _, t⟩ := reps_cons.mp h
    obtain ⟨v', e1, e2⟩ := Reps.get (i := i) t (by simpa using e)
    exact ⟨v', by simpa using e1, e2⟩
theorem Reps.got {ds : List D} {vs : List V} {i : Nat} {v : V} (h : Reps K G ds vs) (e : vs[i]? = some v) : ∃ d, ds[i]? = some d ∧ Rep K G d v := by
  have hl : i < ds.length := by rw [h.length]; exact (List.getElem?_eq_some_iff.mp e).1
  obtain ⟨v', e1, r⟩ := h.get (i := i) (d := ds[i]) (by simp [hl])
  rw [e] at e1; cases e1
  exact ⟨ds[i], by simp [hl], r⟩
theorem Reps.append : ∀ {ds es : List D} {vs us : List V}, Reps K G ds vs → Reps K G es us → Reps K G (ds ++ es) (vs ++ us)
  | [], _, vs, _, h, t => by rw [reps_nil.mp h]; exact t
  | d :: ds, es, vs, us, h, t => by
    obtain ⟨v, r, rfl, a, b⟩ := reps_cons.mp h
    exact Reps.cons a (Reps.append b t)
theorem Reps.take : ∀ {ds : List D} {vs : List V} (n : Nat), Reps K G ds vs → Reps K G (ds.take n) (vs.take n)
  | _, _, 0, _ => by simpa using Reps.nil
  | [], vs, n + 1, h => by rw [reps_nil.mp h]; simpa using Reps.nil
  | d :: ds, vs, n + 1, h => by
    obtain ⟨v, r, rfl, a, b⟩ := reps_cons.mp h
    exact Reps.cons a (Reps.take n b)
theorem Reps.drop : ∀ {ds : List D} {vs : List V} (n : Nat), Reps K G ds vs → Reps K G (ds.drop n) (vs.drop n)
  | _, _, 0, h => by simpa using h
  | [], vs, n + 1, h => by rw [reps_nil.mp h]; simpa using Reps.nil
  | d :: ds, vs, n + 1, h => by
    obtain ⟨v, r, rfl, a, b⟩ := reps_cons.mp h
    exact Reps.drop n b
theorem Reps.set : ∀ {ds : List D} {vs : List V} (i : Nat) {d : D} {v : V}, Reps K G ds vs → Rep K G d v → Reps K G (ds.set i d) (vs.set i v)
  | [], vs, _, _, _, h, _ => by rw [reps_nil.mp h]; simpa using Reps.nil
  | d :: ds, vs, 0, d', v', h, q => by
    obtain ⟨v, r, rfl, a, b⟩ := reps_cons.mp h
    exact Reps.cons q b
  | d :: ds, vs, i + 1, d', v', h, q => by
    obtain ⟨v, r, rfl, a, b⟩ := reps_cons.mp h
    exact Reps.cons a (Reps.set i b q)
theorem Reps.ints : ∀ (ns : List Int), Reps K G (ns.map D.int) (ns.map V.int)
  | [] => Reps.nil
  | n :: ns => Reps.cons (rep_int.mpr rfl) (Reps.ints ns)
end

/-! ## steps of the heaps: G what never changes again, H all -/
structure Step (G H G' H' : Hp) : Prop where
  g : Same G G'
  h : Same H H'
  s : Same G' H'
  f : ∀ b o, G' b = some o → G b = none → H b = none
theorem Step.refl {G H : Hp} (s : Same G H) : Step G H G H := ⟨Same.refl _, Same.refl _, s, fun b o e n => by rw [n] at e; cases e⟩
theorem Step.trans {G H G1 H1 G2 H2 : Hp} (a : Step G H G1 H1) (b : Step G1 H1 G2 H2) : Step G H G2 H2 :=
  ⟨a.g.trans b.g, a.h.trans b.h, b.s, fun c o e n => by
    cases q : G1 c with
    | some o' => exact a.f c o' q n
    | none => exact a.h.free (b.f c o e q)⟩
theorem same_upd {H : Hp} {p : Addr} {o : HO} (n : H p = none) : Same H (upd H p o) := fun b u e => by rw [upd_ne (ne_of_none e n)]; exact e
theorem Step.new {G H : Hp} (s : Same G H) {p : Addr} {o : HO} (n : H p = none) : Step G H (upd G p o) (upd H p o) :=
  ⟨same_upd (s.free n), same_upd n, fun b u e => by
    by_cases hb : b = p
    · subst hb; rw [upd_same] at e ⊢; exact e
    · rw [upd_ne hb] at e ⊢; exact s b u e, fun b u e k => by
    by_cases hb : b = p
    · subst hb; exact n
    · rw [upd_ne hb] at e; rw [e] at k; cases k⟩
theorem Step.newH {G H : Hp} (s : Same G H) {p : Addr} {o : HO} (n : H p = none) : Step G H G (upd H p o) :=
  ⟨Same.refl _, same_upd n, s.trans (same_upd n), fun b u e k => by rw [e] at k; cases k⟩

/-! ## a frame's names -/
inductive Sl where
  | un | v (d : D) | l (xs : List D) | m (kvs : List (Key × D))
def Sl.isOwn : Sl → Bool
  | .l _ => true
  | .m _ => true
  | _ => false
abbrev Rho := List Sl
def RepK (K : PySem.W.Frag) (G : Hp) (kvs : List (Key × D)) (ws : List (Key × V)) : Prop := kvs.map (·.1) = ws.map (·.1) ∧ Reps K G (kvs.map (·.2)) (ws.map (·.2))
theorem RepK.mono {K : PySem.W.Frag} {G G' : Hp} (s : Same G G') {kvs : List (Key × D)} {ws : List (Key × V)} (h : RepK K G kvs ws) : RepK K G' kvs ws := ⟨h.1, Reps.mono s _ _ h.2⟩

structure Er (K : PySem.W.Frag) (G H : Hp) (ρ : Rho) (σ : L2.St) : Prop where
  len : ρ.length = σ.length
  val : ∀ (i : Nat) (d : D), ρ[i]? = some (.v d) → ∃ v, σ[i]? = some (some v) ∧ Rep K G d v
  own : ∀ (i : Nat) (xs : List D), ρ[i]? = some (.l xs) → ∃ a vs, σ[i]? = some (some (.ref a)) ∧ G a = none ∧ H a = some (.lst vs) ∧ Reps K G xs vs
  dic : ∀ (i : Nat) (kvs : List (Key × D)), ρ[i]? = some (.m kvs) → ∃ a ws, σ[i]? = some (some (.ref a)) ∧ G a = none ∧ H a = some (.dK ws) ∧ RepK K G kvs ws
  inj : ∀ (i j : Nat) (s t : Sl) (a : Addr), i ≠ j → ρ[i]? = some s → s.isOwn = true → ρ[j]? = some t → t.isOwn = true → σ[i]? = some (some (.ref a)) → σ[j]? = some (some (.ref a)) → False

theorem Er.step {K : PySem.W.Frag} {G H G' H' : Hp} {ρ : Rho} {σ : L2.St} (e : Er K G H ρ σ) (t : Step G H G' H') : Er K G' H' ρ σ where
  len := e.len
  val := fun i d h => let ⟨v, a, b⟩ := e.val i d h; ⟨v, a, Rep.mono t.g d v b⟩
  own := fun i xs h => by
    obtain ⟨a, vs, h1, h2, h3, h4⟩ := e.own i xs h
    refine ⟨a, vs, h1, ?_, t.h _ _ h3, Reps.mono t.g _ _ h4⟩
    cases q : G' a with
    | none => rfl
    | some o => have := t.f a o q h2; rw [h3] at this; cases this
  dic := fun i xs h => by
    obtain ⟨a, vs, h1, h2, h3, h4⟩ := e.dic i xs h
    refine ⟨a, vs, h1, ?_, t.h _ _ h3, h4.mono t.g⟩
    cases q : G' a with
    | none => rfl
    | some o => have := t.f a o q h2; rw [h3] at this; cases this
  inj := e.inj

/-- an owned slot's address -/
theorem Er.ownAt {K : PySem.W.Frag} {G H : Hp} {ρ : Rho} {σ : L2.St} (e : Er K G H ρ σ) {i : Nat} {s : Sl} (h : ρ[i]? = some s) (o : s.isOwn = true) : ∃ a u, σ[i]? = some (some (.ref a)) ∧ G a = none ∧ H a = some u := by
  cases s with
  | un => cases o
  | v d => cases o
  | l xs => obtain ⟨a, vs, h1, h2, h3, _⟩ := e.own i xs h; exact ⟨a, _, h1, h2, h3⟩
  | m xs => obtain ⟨a, vs, h1, h2, h3, _⟩ := e.dic i xs h; exact ⟨a, _, h1, h2, h3⟩

/-- the base of a def's run: what stood at its entry -/
structure Bs (G0 H0 G H : Hp) : Prop where
  gh : Same G H
  gg : Same G0 G
  hh : Same H0 H
  fr : ∀ b o, G b = some o → G0 b = none → H0 b = none
theorem Bs.step {G0 H0 G H G' H' : Hp} (b : Bs G0 H0 G H) (t : Step G H G' H') : Bs G0 H0 G' H' :=
  ⟨t.s, b.gg.trans t.g, b.hh.trans t.h, fun c o e n => by
    cases q : G c with
    | some o' => exact b.fr c o' q n
    | none => exact b.hh.free (t.f c o e q)⟩
structure StR (K : PySem.W.Frag) (G0 H0 G H : Hp) (ρ : Rho) (σ : L2.St) : Prop where
  er : Er K G H ρ σ
  bs : Bs G0 H0 G H
  ow : ∀ (i : Nat) (s : Sl) (a : Addr), ρ[i]? = some s → s.isOwn = true → σ[i]? = some (some (.ref a)) → H0 a = none
theorem StR.step {K : PySem.W.Frag} {G0 H0 G H G' H' : Hp} {ρ : Rho} {σ : L2.St} (s : StR K G0 H0 G H ρ σ) (t : Step G H G' H') : StR K G0 H0 G' H' ρ σ := ⟨s.er.step t, s.bs.step t, s.ow⟩

theorem get_set {α : Type} {l : List α} {i j : Nat} {x y : α} (h : (l.set i x)[j]? = some y) : (j = i ∧ y = x ∧ i < l.length) ∨ (j ≠ i ∧ l[j]? = some y) := by
  by_cases e : j = i
  · subst e
    have hl : j < l.length := by
      have := (List.getElem?_eq_some_iff.mp h).1
      simpa using this
    rw [List.getElem?_set_self hl] at h
    cases h
    exact .inl ⟨rfl, rfl, hl⟩
  · rw [List.getElem?_set_ne (Ne.symm e)] at h
    exact .inr ⟨e, h⟩
/-- a name is bound to a value that stays -/
theorem StR.setV {K : PySem.W.Frag} {G0 H0 G H : Hp} {ρ : Rho} {σ : L2.St} {i : Nat} {d : D} {v : V} (s : StR K G0 H0 G H ρ σ) (r : Rep K G d v) : StR K G0 H0 G H (ρ.set i (.v d)) (σ.set i (some v)) where
  bs := s.bs
  er := {
    len := by simpa using s.er.len
    val := fun j d' h => by
      rcases get_set h with ⟨rfl, e, hl⟩ | ⟨hj, h⟩
      · cases e
        exact ⟨v, List.getElem?_set_self (by rw [← s.er.len]; exact hl), r⟩
      · rw [List.getElem?_set_ne (Ne.symm hj)]; exact s.er.val j d' h
    own := fun j xs h => by
      rcases get_set h with ⟨rfl, e, hl⟩ | ⟨hj, h⟩
      · cases e
      · rw [List.getElem?_set_ne (Ne.symm hj)]; exact s.er.own j xs h
    dic := fun j xs h => by
      rcases get_set h with ⟨rfl, e, hl⟩ | ⟨hj, h⟩
      · cases e
      · rw [List.getElem?_set_ne (Ne.symm hj)]; exact s.er.dic j xs h
    inj := fun j k u t a ne h1 o1 h2 o2 q1 q2 => by
      rcases get_set h1 with ⟨rfl, e, _⟩ | ⟨hj, h1⟩
      · subst e; cases o1
      rcases get_set h2 with ⟨rfl, e, _⟩ | ⟨hk, h2⟩
      · subst e; cases o2
      rw [List.getElem?_set_ne (Ne.symm hj)] at q1
      rw [List.getElem?_set_ne (Ne.symm hk)] at q2
      exact s.er.inj j k u t a ne h1 o1 h2 o2 q1 q2 }
  ow := fun j u a h o q => by
    rcases get_set h with ⟨rfl, e, _⟩ | ⟨hj, h⟩
    · subst e; cases o
    · rw [List.getElem?_set_ne (Ne.symm hj)] at q; exact s.ow j u a h o q

/-- a name is bound to a new thing of its own -/
theorem StR.setOwn {K : PySem.W.Frag} {G0 H0 G H G' H' : Hp} {ρ : Rho} {σ : L2.St} {i : Nat} {a : Addr} {w : Sl} (s : StR K G0 H0 G H ρ σ) (t : Step G H G' H') (hw : w.isOwn = true) (hn : H a = none) (hg : G' a = none)
    (hl : ∀ xs, w = .l xs → ∃ vs, H' a = some (.lst vs) ∧ Reps K G' xs vs) (hm : ∀ kvs, w = .m kvs → ∃ ws, H' a = some (.dK ws) ∧ RepK K G' kvs ws) :
    StR K G0 H0 G' H' (ρ.set i w) (σ.set i (some (.ref a))) where
  bs := s.bs.step t
  er := {
    len := by simpa using s.er.len
    val := fun j d' h => by
      rcases get_set h with ⟨rfl, e, _⟩ | ⟨hj, h⟩
      · subst e; cases hw
      · rw [List.getElem?_set_ne (Ne.symm hj)]; exact (s.er.step t).val j d' h
    own := fun j xs h => by
      rcases get_set h with ⟨rfl, e, hi⟩ | ⟨hj, h⟩
      · obtain ⟨vs, h1, h2⟩ := hl xs e.symm
        exact ⟨a, vs, List.getElem?_set_self (by rw [← s.er.len]; exact hi), hg, h1, h2⟩
      · rw [List.getElem?_set_ne (Ne.symm hj)]; exact (s.er.step t).own j xs h
    dic := fun j xs h => by
      rcases get_set h with ⟨rfl, e, hi⟩ | ⟨hj, h⟩
      · obtain ⟨vs, h1, h2⟩ := hm xs e.symm
        exact ⟨a, vs, List.getElem?_set_self (by rw [← s.er.len]; exact hi), hg, h1, h2⟩
      · rw [List.getElem?_set_ne (Ne.symm hj)]; exact (s.er.step t).dic j xs h
    inj := fun j k u v b ne h1 o1 h2 o2 q1 q2 => by
      have old : ∀ {j : Nat} {u : Sl}, ρ[j]? = some u → u.isOwn = true → σ[j]? = some (some (.ref a)) → False := fun {j u} h o q => by
        obtain ⟨a', u', e1, _, e3⟩ := s.er.ownAt h o
        rw [q] at e1; cases e1
        rw [hn] at e3; cases e3
      rcases get_set h1 with ⟨ej, e, hi⟩ | ⟨hj, h1'⟩
      · rw [ej, List.getElem?_set_self (by rw [← s.er.len]; exact hi)] at q1
        cases q1
        rcases get_set h2 with ⟨ek, _, _⟩ | ⟨hk, h2'⟩
        · exact ne (ej.trans ek.symm)
        · rw [List.getElem?_set_ne (Ne.symm hk)] at q2
          exact old h2' o2 q2
      · rw [List.getElem?_set_ne (Ne.symm hj)] at q1
        rcases get_set h2 with ⟨ek, e, hi⟩ | ⟨hk, h2'⟩
        · rw [ek, List.getElem?_set_self (by rw [← s.er.len]; exact hi)] at q2
          cases q2
          exact old h1' o1 q1
        · rw [List.getElem?_set_ne (Ne.symm hk)] at q2
          exact s.er.inj j k u v b ne h1' o1 h2' o2 q1 q2 }
  ow := fun j u b h o q => by
    rcases get_set h with ⟨rfl, e, hi⟩ | ⟨hj, h⟩
    · rw [List.getElem?_set_self (by rw [← s.er.len]; exact hi)] at q
      cases q
      exact s.bs.hh.free hn
    · rw [List.getElem?_set_ne (Ne.symm hj)] at q; exact s.ow j u b h o q

/-- a thing of a name's own is changed -/
theorem StR.mut {K : PySem.W.Frag} {G0 H0 G H : Hp} {ρ : Rho} {σ : L2.St} {i : Nat} {a : Addr} {u w : Sl} {o : HO} (s : StR K G0 H0 G H ρ σ) (hu : ρ[i]? = some u) (ou : u.isOwn = true) (hw : w.isOwn = true) (ha : σ[i]? = some (some (.ref a)))
    (hl : ∀ xs, w = .l xs → ∃ vs, o = .lst vs ∧ Reps K G xs vs) (hm : ∀ kvs, w = .m kvs → ∃ ws, o = .dK ws ∧ RepK K G kvs ws) :
    StR K G0 H0 G (upd H a o) (ρ.set i w) σ := by
  obtain ⟨a', u', e1, e2, e3⟩ := s.er.ownAt hu ou
  rw [ha] at e1; cases e1
  have n0 : H0 a = none := s.ow i u a hu ou ha
  have hi : i < ρ.length := (List.getElem?_eq_some_iff.mp hu).1
  have oth : ∀ {j : Nat} {u' : Sl} {b : Addr}, j ≠ i → ρ[j]? = some u' → u'.isOwn = true → σ[j]? = some (some (.ref b)) → b ≠ a := fun {j u' b} ne h o' q z => by
    subst z
    exact s.er.inj j i u' u b ne h o' hu ou q ha
  refine ⟨⟨by simpa using s.er.len, fun j d' h => ?_, fun j xs h => ?_, fun j xs h => ?_, fun j k u1 v b ne h1 o1 h2 o2 q1 q2 => ?_⟩, ⟨fun b x e => ?_, s.bs.gg, fun b x e => ?_, s.bs.fr⟩, fun j u1 b h o' q => ?_⟩
  · rcases get_set h with ⟨rfl, e, _⟩ | ⟨hj, h⟩
    · subst e; cases hw
    · exact s.er.val j d' h
  · rcases get_set h with ⟨rfl, e, _⟩ | ⟨hj, h⟩
    · obtain ⟨vs, h1, h2⟩ := hl xs e.symm
      exact ⟨a, vs, ha, e2, by rw [upd_same, h1], h2⟩
    · obtain ⟨b, vs, h1, h2, h3, h4⟩ := s.er.own j xs h
      exact ⟨b, vs, h1, h2, by rw [upd_ne (oth hj h rfl h1)]; exact h3, h4⟩
  · rcases get_set h with ⟨rfl, e, _⟩ | ⟨hj, h⟩
    · obtain ⟨vs, h1, h2⟩ := hm xs e.symm
      exact ⟨a, vs, ha, e2, by rw [upd_same, h1], h2⟩
    · obtain ⟨b, vs, h1, h2, h3, h4⟩ := s.er.dic j xs h
      exact ⟨b, vs, h1, h2, by rw [upd_ne (oth hj h rfl h1)]; exact h3, h4⟩
  · have back : ∀ {j : Nat} {u1 : Sl}, (ρ.set i w)[j]? = some u1 → u1.isOwn = true → ∃ u2, ρ[j]? = some u2 ∧ u2.isOwn = true := fun {j u1} h o' => by
      rcases get_set h with ⟨rfl, e, _⟩ | ⟨hj, h⟩
      · exact ⟨u, hu, ou⟩
      · exact ⟨u1, h, o'⟩
    obtain ⟨u2, g1, p1⟩ := back h1 o1
    obtain ⟨v2, g2, p2⟩ := back h2 o2
    exact s.er.inj j k u2 v2 b ne g1 p1 g2 p2 q1 q2
  · rw [upd_ne (fun z => by rw [z, e2] at e; cases e)]; exact s.bs.gh b x e
  · rw [upd_ne (fun z => by rw [z, n0] at e; cases e)]; exact s.bs.hh b x e
  · rcases get_set h with ⟨rfl, e, _⟩ | ⟨hj, h⟩
    · rw [ha] at q; cases q; exact n0
    · exact s.ow j u1 b h o' q

/-- a list of a name's own stays as it is from here on -/
def frz (i : Nat) (ρ : Rho) : Rho := match ρ[i]? with
  | some (.l xs) => ρ.set i (.v (.lst xs))
  | _ => ρ
theorem StR.frz {K : PySem.W.Frag} {G0 H0 G H : Hp} {ρ : Rho} {σ : L2.St} (i : Nat) (s : StR K G0 H0 G H ρ σ) : ∃ G', Same G G' ∧ StR K G0 H0 G' H (RD.frz i ρ) σ := by
  unfold RD.frz
  split
  · rename_i xs h
    obtain ⟨a, vs, h1, h2, h3, h4⟩ := s.er.own i xs h
    have n0 : H0 a = none := s.ow i _ a h rfl h1
    have hG : Same G (upd G a (.lst vs)) := same_upd h2
    have hi : i < ρ.length := (List.getElem?_eq_some_iff.mp h).1
    have oth : ∀ {j : Nat} {u' : Sl} {b : Addr}, j ≠ i → ρ[j]? = some u' → u'.isOwn = true → σ[j]? = some (some (.ref b)) → b ≠ a := fun {j u' b} ne h' o' q z => by
      subst z
      exact s.er.inj j i u' _ b ne h' o' h rfl q h1
    refine ⟨upd G a (.lst vs), hG, ⟨by simpa using s.er.len, fun j d' q => ?_, fun j ys q => ?_, fun j ys q => ?_, fun j k u1 v b ne q1 o1 q2 o2 p1 p2 => ?_⟩, ⟨fun b x e => ?_, s.bs.gg.trans hG, s.bs.hh, fun b x e n => ?_⟩, fun j u1 b q o' p => ?_⟩
    · rcases get_set q with ⟨rfl, e, _⟩ | ⟨hj, q⟩
      · cases e
        exact ⟨.ref a, h1, rep_lst.mpr ⟨a, vs, rfl, SqL.of upd_same, Reps.mono hG _ _ h4⟩⟩
      · obtain ⟨v, e1, e2⟩ := s.er.val j d' q
        exact ⟨v, e1, Rep.mono hG _ _ e2⟩
    · rcases get_set q with ⟨rfl, e, _⟩ | ⟨hj, q⟩
      · cases e
      · obtain ⟨b, ws, e1, e2, e3, e4⟩ := s.er.own j ys q
        exact ⟨b, ws, e1, by rw [upd_ne (oth hj q rfl e1)]; exact e2, e3, Reps.mono hG _ _ e4⟩
    · rcases get_set q with ⟨rfl, e, _⟩ | ⟨hj, q⟩
      · cases e
      · obtain ⟨b, ws, e1, e2, e3, e4⟩ := s.er.dic j ys q
        exact ⟨b, ws, e1, by rw [upd_ne (oth hj q rfl e1)]; exact e2, e3, e4.mono hG⟩
    · rcases get_set q1 with ⟨rfl, e, _⟩ | ⟨hj, q1⟩
      · subst e; cases o1
      rcases get_set q2 with ⟨rfl, e, _⟩ | ⟨hk, q2⟩
      · subst e; cases o2
      exact s.er.inj j k u1 v b ne q1 o1 q2 o2 p1 p2
    · by_cases z : b = a
      · subst z; rw [upd_same] at e; cases e; exact h3
      · rw [upd_ne z] at e; exact s.bs.gh b x e
    · by_cases z : b = a
      · subst z; exact n0
      · rw [upd_ne z] at e; exact s.bs.fr b x e n
    · rcases get_set q with ⟨rfl, e, _⟩ | ⟨hj, q⟩
      · subst e; cases o'
      · exact s.ow j u1 b q o' p
  · exact ⟨G, Same.refl _, s⟩

/-! ## reading a value: one that stays, or a list of a name's own -/
inductive RepR (K : PySem.W.Frag) (G H : Hp) : D → V → Prop where
  | fr {d : D} {v : V} : Rep K G d v → RepR K G H d v
  | ow {xs : List D} {a : Addr} {vs : List V} : G a = none → H a = some (.lst vs) → Reps K G xs vs → RepR K G H (.lst xs) (.ref a)
theorem RepR.step {K : PySem.W.Frag} {G H G' H' : Hp} {d : D} {v : V} (r : RepR K G H d v) (t : Step G H G' H') : RepR K G' H' d v := by
  cases r with
  | fr r => exact .fr (Rep.mono t.g _ _ r)
  | ow h1 h2 h3 =>
    refine .ow ?_ (t.h _ _ h2) (Reps.mono t.g _ _ h3)
    rename_i a _
    cases q : G' a with
    | none => rfl
    | some o => have := t.f a o q h1; rw [h2] at this; cases this
section
variable {K : PySem.W.Frag} {G H : Hp}
theorem RepR.list {xs : List D} {v : V} (r : RepR K G H (.lst xs) v) (s : Same G H) : ∃ a vs, v = .ref a ∧ SqL K H a vs ∧ Reps K G xs vs := by
  cases r with
  | fr r => obtain ⟨a, vs, e, q, t⟩ := rep_lst.mp r; exact ⟨a, vs, e, s.seq q, t⟩
  | ow h1 h2 h3 => exact ⟨_, _, rfl, SqL.of h2, h3⟩
theorem RepR.rep {d : D} {v : V} (r : RepR K G H d v) (h : ∀ xs, d ≠ .lst xs) : Rep K G d v := by
  cases r with
  | fr r => exact r
  | ow _ _ _ => exact absurd rfl (h _)
theorem RepR.int {i : Int} {v : V} (r : RepR K G H (.int i) v) : v = .int i := rep_int.mp (r.rep fun _ z => by cases z)
theorem RepR.bl {b : Bool} {v : V} (r : RepR K G H (.bl b) v) : v = .bl b := rep_bl.mp (r.rep fun _ z => by cases z)
theorem RepR.str {x : Str} {v : V} (r : RepR K G H (.str x) v) : v = .str x := rep_str.mp (r.rep fun _ z => by cases z)
theorem RepR.non {v : V} (r : RepR K G H .non v) : v = .non := rep_non.mp (r.rep fun _ z => by cases z)
theorem RepR.tup {xs : List D} {v : V} (r : RepR K G H (.tup xs) v) (s : Same G H) : ∃ a vs, v = .ref a ∧ SqT K H a vs ∧ Reps K G xs vs := by
  obtain ⟨a, vs, e, q, t⟩ := rep_tup.mp (r.rep fun _ z => by cases z)
  exact ⟨a, vs, e, same_tup s q, t⟩
end

/-! ## readings -/
def tE (K : PySem.W.Frag) (f : Rho → Option D) : TE := fun σ H Q => ∃ G ρ d, Same G H ∧ Er K G H ρ σ ∧ f ρ = some d ∧ ∀ v G' H', Step G H G' H' → Rep K G' d v → Q v H'
def tR (K : PySem.W.Frag) (f : Rho → Option D) : TE := fun σ H Q => ∃ G ρ d, Same G H ∧ Er K G H ρ σ ∧ f ρ = some d ∧ ∀ v G' H', Step G H G' H' → RepR K G' H' d v → Q v H'
/-- a new list -/
def tF (K : PySem.W.Frag) (f : Rho → Option (List D)) : TE := fun σ H Q => ∃ G ρ xs, Same G H ∧ Er K G H ρ σ ∧ f ρ = some xs ∧
  ∀ a vs G' H', Step G H G' H' → H a = none → G' a = none → H' a = some (.lst vs) → Reps K G' xs vs → Q (.ref a) H'
def tTs (K : PySem.W.Frag) (f : Rho → Option Bool) : TT := fun σ H Q => ∃ G ρ b, Same G H ∧ Er K G H ρ σ ∧ f ρ = some b ∧ ∀ G' H', Step G H G' H' → Q b H'
def tAs (K : PySem.W.Frag) (f : Rho → Option (List D)) : TA := fun σ H Q => ∃ G ρ ds, Same G H ∧ Er K G H ρ σ ∧ f ρ = some ds ∧ ∀ vs G' H', Step G H G' H' → Reps K G' ds vs → Q vs H'
abbrev SE (X : Cx) (e : Expr) (f : Rho → Option D) : Prop := PE X e (tE X.K f)
abbrev SR (X : Cx) (e : Expr) (f : Rho → Option D) : Prop := PE X e (tR X.K f)
abbrev SF (X : Cx) (e : Expr) (f : Rho → Option (List D)) : Prop := PE X e (tF X.K f)
abbrev SB (X : Cx) (e : Expr) (f : Rho → Option Bool) : Prop := PT X e (tTs X.K f)
structure SA (X : Cx) (es : List Expr) (f : Rho → Option (List D)) : Prop where
  pa : PA X es (tAs X.K f)
  len : ∀ ρ ds, f ρ = some ds → ds.length = es.length

theorem weak {X : Cx} {e : Expr} {t t' : TE} (h : PE X e t) (w : ∀ σ H Q, t' σ H Q → t σ H Q) : PE X e t' := fun pins s σ H Q I q => h pins s σ H Q I (w σ H Q q)
theorem weakT {X : Cx} {e : Expr} {t t' : TT} (h : PT X e t) (w : ∀ σ H Q, t' σ H Q → t σ H Q) : PT X e t' := fun pins s σ H Q I q => h pins s σ H Q I (w σ H Q q)
theorem weakA {X : Cx} {e : List Expr} {t t' : TA} (h : PA X e t) (w : ∀ σ H Q, t' σ H Q → t σ H Q) : PA X e t' := fun pos pins s σ H Q I q => h pos pins s σ H Q I (w σ H Q q)
theorem weakS {X : Cx} {e : Stmt} {t t' : TS} (h : PS X e t) (w : ∀ Q σ H, t' Q σ H → t Q σ H) : PS X e t' := fun pins s σ H Q I q => h pins s σ H Q I (w Q σ H q)
theorem weakSs {X : Cx} {e : List Stmt} {t t' : TS} (h : PSs X e t) (w : ∀ Q σ H, t' Q σ H → t Q σ H) : PSs X e t' := fun pins s σ H Q I q => h pins s σ H Q I (w Q σ H q)

section
variable {X : Cx} {e a b : Expr} {es : List Expr} {f g : Rho → Option D} {fl : Rho → Option (List D)} {pos : Pos}
theorem sr_of (h : SE X e f) : SR X e f := weak h fun σ H Q ⟨G, ρ, d, s, er, ef, k⟩ => ⟨G, ρ, d, s, er, ef, fun v G' H' t r => k v G' H' t (.fr r)⟩
theorem se_new {G H G' H' : Hp} {a : Addr} {vs : List V} (t : Step G H G' H') (h1 : H a = none) (h2 : G' a = none) (h3 : H' a = some (.lst vs)) : Step G H (upd G' a (.lst vs)) H' :=
  ⟨t.g.trans (same_upd h2), t.h, fun b u e => by
    by_cases z : b = a
    · subst z; rw [upd_same] at e; cases e; exact h3
    · rw [upd_ne z] at e; exact t.s b u e, fun b u e n => by
    by_cases z : b = a
    · subst z; exact h1
    · rw [upd_ne z] at e; exact t.f b u e n⟩
theorem se_of_sf (h : SF X e fl) : SE X e (fun ρ => (fl ρ).map D.lst) := weak h fun σ H Q ⟨G, ρ, d, s, er, ef, k⟩ => by
  obtain ⟨xs, e1, rfl⟩ := Option.map_eq_some_iff.mp ef
  refine ⟨G, ρ, xs, s, er, e1, fun a vs G' H' t h1 h2 h3 r => ?_⟩
  exact k (.ref a) (upd G' a (.lst vs)) H' (se_new t h1 h2 h3) (rep_lst.mpr ⟨a, vs, rfl, SqL.of upd_same, Reps.mono (same_upd h2) _ _ r⟩)

def vget (ρ : Rho) (i : Nat) : Option D := match ρ[i]? with
  | some (.v d) => some d
  | _ => none
def rget (ρ : Rho) (i : Nat) : Option D := match ρ[i]? with
  | some (.v d) => some d
  | some (.l xs) => some (.lst xs)
  | _ => none
theorem vget_eq {ρ : Rho} {i : Nat} {d : D} (h : vget ρ i = some d) : ρ[i]? = some (.v d) := by
  unfold vget at h
  split at h
  · cases h; assumption
  · cases h
theorem rget_eq {ρ : Rho} {i : Nat} {d : D} (h : rget ρ i = some d) : ρ[i]? = some (.v d) ∨ ∃ xs, d = .lst xs ∧ ρ[i]? = some (.l xs) := by
  unfold rget at h
  split at h
  · cases h; left; assumption
  · cases h; right; exact ⟨_, rfl, by assumption⟩
  · cases h
theorem se_name (i : Nat) (h : PE X e (tVar i)) : SE X e (fun ρ => vget ρ i) := weak h fun σ H Q ⟨G, ρ, d, s, er, ef, k⟩ => by
  obtain ⟨v, e1, r⟩ := er.val i d (vget_eq ef)
  exact ⟨v, e1, k v G H (Step.refl s) r⟩
theorem sr_name (i : Nat) (h : PE X e (tVar i)) : SR X e (fun ρ => rget ρ i) := weak h fun σ H Q ⟨G, ρ, d, s, er, ef, k⟩ => by
  rcases rget_eq ef with ef1 | ⟨xs, rfl, ef1⟩
  · obtain ⟨v, e1, r⟩ := er.val i d ef1
    exact ⟨v, e1, k v G H (Step.refl s) (.fr r)⟩
  · obtain ⟨a, vs, e1, e2, e3, e4⟩ := er.own i xs ef1
    exact ⟨_, e1, k _ G H (Step.refl s) (.ow e2 e3 e4)⟩
theorem se_const {v : V} {d : D} (h : PE X e (tC v)) (r : ∀ K G, Rep K G d v) : SE X e (fun _ => some d) := weak h fun σ H Q ⟨G, ρ, d', s, er, ef, k⟩ => by
  cases ef
  exact k v G H (Step.refl s) (r _ _)
theorem se_int {i j} : SE X (.Constant (.int i) j pos) (fun _ => some (.int i)) := se_const pe_int fun _ _ => rep_int.mpr rfl
theorem se_bl {i j} : SE X (.Constant (.bool i) j pos) (fun _ => some (.bl i)) := se_const pe_bl fun _ _ => rep_bl.mpr rfl
theorem se_non {j} : SE X (.Constant .none j pos) (fun _ => some .non) := se_const pe_non fun _ _ => rep_non.mpr rfl
theorem se_str {i j} : SE X (.Constant (.str i) j pos) (fun _ => some (.str i)) := se_const pe_str fun _ _ => rep_str.mpr rfl

/-! ## two places -/
def rD (K : PySem.W.Frag) (op : D → D → Option D) : R2 := fun x y H Q => ∃ G dx dy d, Same G H ∧ RepR K G H dx x ∧ RepR K G H dy y ∧ op dx dy = some d ∧ ∀ v G' H', Step G H G' H' → Rep K G' d v → Q v H'
def b2 (f g : Rho → Option D) (op : D → D → Option D) : Rho → Option D := fun ρ => (f ρ).bind fun x => (g ρ).bind fun y => op x y
theorem lift2 {K : PySem.W.Frag} {op : D → D → Option D} {σ : L2.St} {H : Hp} {Q : VK} (h : tE K (b2 f g op) σ H Q) : tOp (rD K op) (tR K f) (tR K g) σ H Q := by
  obtain ⟨G, ρ, d, s, er, ef, k⟩ := h
  obtain ⟨x, e1, ef⟩ := Option.bind_eq_some_iff.mp ef
  obtain ⟨y, e2, ef⟩ := Option.bind_eq_some_iff.mp ef
  refine ⟨G, ρ, x, s, er, e1, fun v1 G1 H1 t1 r1 => ⟨G1, ρ, y, t1.s, er.step t1, e2, fun v2 G2 H2 t2 r2 => ?_⟩⟩
  exact ⟨G2, x, y, d, t2.s, r1.step t2, r2, ef, fun v G' H' t r => k v G' H' ((t1.trans t2).trans t) r⟩
theorem se_op {op : Operator} {o2 : D → D → Option D} (ho : OpR X (binaryOp op) (rD X.K o2)) (ha : SR X a f) (hb : SR X b g) : SE X (.BinOp a op b pos) (b2 f g o2) := weak (pe_op ho ha hb) fun _ _ _ h => lift2 h
theorem se_cmp {op : CmpOp} {o2 : D → D → Option D} (ho : OpR X (compareOp op) (rD X.K o2)) (ha : SR X a f) (hb : SR X b g) (hm : behindInMarks op b = false) : SE X (.Compare a [op] [b] pos) (b2 f g o2) := weak (pe_cmpR ho ha hb hm) fun _ _ _ h => lift2 h
/-- a value's truth -/
def asB : D → Option Bool
  | .bl b => some b
  | _ => none
def bB (f : Rho → Option D) : Rho → Option Bool := fun ρ => (f ρ).bind asB
theorem asB_eq {d : D} {b : Bool} (h : asB d = some b) : d = .bl b := by
  cases d <;> first | (cases h; rfl) | cases h
theorem sb_cmp {op : CmpOp} {o2 : D → D → Option D} (ho : OpR X (compareOp op) (rD X.K o2)) (ha : SR X a f) (hb : SR X b g) (hm : behindInMarks op b = false) : SB X (.Compare a [op] [b] pos) (bB (b2 f g o2)) :=
  weakT (pt_cmpR ho ha hb hm) fun σ H Q ⟨G, ρ, d, s, er, ef, k⟩ => by
    obtain ⟨x, e1, e2⟩ := Option.bind_eq_some_iff.mp ef
    have e3 := asB_eq e2
    subst e3
    exact lift2 ⟨G, ρ, _, s, er, e1, fun v G' H' t r => ⟨d, rep_bl.mp r, k G' H' t⟩⟩
/-- chains -/
def b3 (f g h : Rho → Option D) (o1 o2 : D → D → Option D) : Rho → Option D := fun ρ => (f ρ).bind fun x => (g ρ).bind fun y => (o1 x y).bind fun z => (asB z).bind fun k => if k = true then (h ρ).bind fun w => o2 y w else some (.bl false)
theorem lift3 {K : PySem.W.Frag} {o1 o2 : D → D → Option D} {h : Rho → Option D} {σ : L2.St} {H : Hp} {Q : VK} (hh : tE K (b3 f g h o1 o2) σ H Q) : tChain (rD K o1) (rD K o2) (tR K f) (tR K g) (tR K h) σ H Q := by
  obtain ⟨G, ρ, d, s, er, ef, k⟩ := hh
  obtain ⟨x, e1, ef1⟩ := Option.bind_eq_some_iff.mp ef
  obtain ⟨y, e2, ef2⟩ := Option.bind_eq_some_iff.mp ef1
  obtain ⟨z, e3, ef3⟩ := Option.bind_eq_some_iff.mp ef2
  obtain ⟨c, e4, ef4⟩ := Option.bind_eq_some_iff.mp ef3
  have e5 := asB_eq e4
  subst e5
  refine ⟨G, ρ, x, s, er, e1, fun v1 G1 H1 t1 r1 => ⟨G1, ρ, y, t1.s, er.step t1, e2, fun v2 G2 H2 t2 r2 => ?_⟩⟩
  refine ⟨G2, x, y, _, t2.s, r1.step t2, r2, e3, fun v3 G3 H3 t3 r3 => ⟨c, rep_bl.mp r3, ?_⟩⟩
  cases c with
  | false =>
    rw [if_neg Bool.false_ne_true] at ef4 ⊢
    cases ef4
    exact k _ G3 H3 ((t1.trans t2).trans t3) (rep_bl.mpr rfl)
  | true =>
    rw [if_pos rfl] at ef4 ⊢
    obtain ⟨w, e6, ef5⟩ := Option.bind_eq_some_iff.mp ef4
    refine ⟨G3, ρ, w, t3.s, er.step ((t1.trans t2).trans t3), e6, fun v4 G4 H4 t4 r4 => ?_⟩
    exact ⟨G4, y, w, d, t4.s, r2.step (t3.trans t4), r4, ef5, fun v G' H' t r => k v G' H' ((((t1.trans t2).trans t3).trans t4).trans t) r⟩
theorem se_chain {op op' : CmpOp} {o1 o2 : D → D → Option D} {c : Expr} {h : Rho → Option D} (ho : OpR X (compareOp op) (rD X.K o1)) (ho' : OpR X (compareOp op') (rD X.K o2)) (ha : SR X a f) (hb : SR X b g) (hc : SR X c h)
    (hm : lastMarks [op, op'] [b, c] = false := by with_unfolding_all rfl) : SE X (.Compare a [op, op'] [b, c] pos) (b3 f g h o1 o2) := weak (pe_chain ho ho' ha hb hc hm) fun _ _ _ h => lift3 h
theorem sb_chain {op op' : CmpOp} {o1 o2 : D → D → Option D} {c : Expr} {h : Rho → Option D} (ho : OpR X (compareOp op) (rD X.K o1)) (ho' : OpR X (compareOp op') (rD X.K o2)) (ha : SR X a f) (hb : SR X b g) (hc : SR X c h)
    (hm : lastMarks [op, op'] [b, c] = false := by with_unfolding_all rfl) : SB X (.Compare a [op, op'] [b, c] pos) (bB (b3 f g h o1 o2)) :=
  weakT (pt_chain ho ho' ha hb hc hm) fun σ H Q ⟨G, ρ, d, s, er, ef, k⟩ => by
    obtain ⟨x, e1, e2⟩ := Option.bind_eq_some_iff.mp ef
    have e3 := asB_eq e2
    subst e3
    exact lift3 ⟨G, ρ, _, s, er, e1, fun v G' H' t r => ⟨d, rep_bl.mp r, k G' H' t⟩⟩

/-! ## tests -/
def bAnd (f g : Rho → Option Bool) : Rho → Option Bool := fun ρ => (f ρ).bind fun b => if b = true then g ρ else some false
def bOr (f g : Rho → Option Bool) : Rho → Option Bool := fun ρ => (f ρ).bind fun b => if b = true then some true else g ρ
def bNot (f : Rho → Option Bool) : Rho → Option Bool := fun ρ => (f ρ).map (!·)
abbrev SW (X : Cx) (e : Expr) (f : Rho → Option Bool) : Prop := PW X e (tTs X.K f)
theorem weakW {X : Cx} {e : Expr} {t t' : TT} (h : PW X e t) (w : ∀ σ H Q, t' σ H Q → t σ H Q) : PW X e t' := fun wh pins s σ H Q I q => h wh pins s σ H Q I (w σ H Q q)
theorem sb_w {f : Rho → Option Bool} (h : SW X e f) : SB X e f := h.pt
variable {p q : Rho → Option Bool} {rest : List Expr}
theorem sw_or1 (ha : SB X a p) : SW X (.BoolOp .Or [a] pos) p := pw_or1 ha
theorem sw_or (ha : SB X a p) (hb : SW X (.BoolOp .Or (b :: rest) pos) q) : SW X (.BoolOp .Or (a :: b :: rest) pos) (bOr p q) :=
  weakW (pw_or ha hb) fun σ H Q ⟨G, ρ, d, s, er, ef, k⟩ => by
    obtain ⟨c, e1, ef⟩ := Option.bind_eq_some_iff.mp ef
    refine ⟨G, ρ, c, s, er, e1, fun G1 H1 t1 => ?_⟩
    cases c with
    | true => rw [if_pos rfl] at ef ⊢; cases ef; exact k G1 H1 t1
    | false => rw [if_neg Bool.false_ne_true] at ef ⊢; exact ⟨G1, ρ, d, t1.s, er.step t1, ef, fun G' H' t => k G' H' (t1.trans t)⟩
theorem sb_not (ha : SB X a p) : SB X (.UnaryOp .Not a pos) (bNot p) := weakT (pt_not ha) fun σ H Q ⟨G, ρ, d, s, er, ef, k⟩ => by
  obtain ⟨c, e1, rfl⟩ := Option.map_eq_some_iff.mp ef
  exact ⟨G, ρ, c, s, er, e1, fun G1 H1 t1 => k G1 H1 t1⟩
/-- a value's truth -/
def truD : D → Option Bool
  | .non => some false
  | .bl b => some b
  | .int i => some (i != 0)
  | .str x => if x.length ≤ sizeLine then some ((x.length : Int) != 0) else none
  | .tup xs => some (!xs.isEmpty)
  | .lst xs => some (!xs.isEmpty)
theorem reps_empty {K : PySem.W.Frag} {G : Hp} {xs : List D} {vs : List V} (h : Reps K G xs vs) : xs.isEmpty = vs.isEmpty := by
  have := h.length
  cases xs <;> cases vs <;> simp_all
def bTru (f : Rho → Option D) : Rho → Option Bool := fun ρ => (f ρ).bind truD
theorem sb_tru (ha : SR X a f) (he : ∀ whole, isTrue a X.env whole = (do let v ← whole; standAt a.pos; holding [v] (truthy v)) := by intro _; rfl) : SB X a (bTru f) :=
  weakT (pt_truth ha he) fun σ H Q ⟨G, ρ, b, s, er, ef, k⟩ => by
    obtain ⟨d, e1, ef⟩ := Option.bind_eq_some_iff.mp ef
    refine ⟨G, ρ, d, s, er, e1, fun v G1 H1 t1 r1 => ⟨b, ?_, k G1 H1 t1⟩⟩
    cases d with
    | non => cases ef; rw [r1.non]; exact rfl
    | bl c => cases ef; rw [r1.bl]; exact rfl
    | int c => cases ef; rw [r1.int]; exact rfl
    | str c =>
      simp only [truD] at ef
      split at ef
      · rename_i h; cases ef; rw [r1.str]; exact ⟨h, rfl⟩
      · cases ef
    | tup xs => cases ef; obtain ⟨a, vs, rfl, q, r⟩ := r1.tup t1.s; exact .inr (.inl ⟨vs, q, by rw [reps_empty r]⟩)
    | lst xs => cases ef; obtain ⟨a, vs, rfl, q, r⟩ := r1.list t1.s; exact .inl ⟨vs, q, by rw [reps_empty r]⟩

/-! ## and, or, not as values (bools) -/
def vAnd (f g : Rho → Option D) : Rho → Option D := fun ρ => (f ρ).bind fun x => (asB x).bind fun b => if b = true then g ρ else some (.bl false)
def vOr (f g : Rho → Option D) : Rho → Option D := fun ρ => (f ρ).bind fun x => (asB x).bind fun b => if b = true then some (.bl true) else g ρ
def vNot (f : Rho → Option D) : Rho → Option D := fun ρ => (f ρ).bind fun x => (asB x).map fun b => .bl (!b)
theorem se_one {op} (h : SE X a f) : SE X (.BoolOp op [a] pos) f := pe_one h
theorem se_and (ha : SE X a f) (hb : SE X (.BoolOp .And (b :: rest) pos) g) : SE X (.BoolOp .And (a :: b :: rest) pos) (vAnd f g) :=
  weak (pe_and ha hb) fun σ H Q ⟨G, ρ, d, s, er, ef, k⟩ => by
    obtain ⟨x, e1, ef1⟩ := Option.bind_eq_some_iff.mp ef
    obtain ⟨c, e2, ef2⟩ := Option.bind_eq_some_iff.mp ef1
    have e3 := asB_eq e2
    subst e3
    refine ⟨G, ρ, _, s, er, e1, fun v1 G1 H1 t1 r1 => ⟨c, rep_bl.mp r1, ?_⟩⟩
    cases c with
    | false => rw [if_neg Bool.false_ne_true] at ef2 ⊢; cases ef2; exact k _ G1 H1 t1 (rep_bl.mpr rfl)
    | true => rw [if_pos rfl] at ef2 ⊢; exact ⟨G1, ρ, d, t1.s, er.step t1, ef2, fun v G' H' t r => k v G' H' (t1.trans t) r⟩
theorem se_not (ha : SE X a f) : SE X (.UnaryOp .Not a pos) (vNot f) := weak (pe_not ha) fun σ H Q ⟨G, ρ, d, s, er, ef, k⟩ => by
  obtain ⟨x, e1, ef⟩ := Option.bind_eq_some_iff.mp ef
  obtain ⟨c, e2, rfl⟩ := Option.map_eq_some_iff.mp ef
  have e3 := asB_eq e2
  subst e3
  exact ⟨G, ρ, _, s, er, e1, fun v1 G1 H1 t1 r1 => ⟨c, rep_bl.mp r1, k _ G1 H1 t1 (rep_bl.mpr rfl)⟩⟩

/-! ## argument lists, displays -/
def aCons (f : Rho → Option D) (g : Rho → Option (List D)) : Rho → Option (List D) := fun ρ => (f ρ).bind fun x => (g ρ).map fun xs => x :: xs
theorem sa_nil : SA X [] (fun _ => some []) := ⟨weakA pa_nil fun σ H Q ⟨G, ρ, d, s, er, ef, k⟩ => by cases ef; exact k [] G H (Step.refl s) Reps.nil, fun ρ ds h => by cases h; rfl⟩
theorem sa_cons (ha : SE X e f) (hr : SA X es fl) (hs : starEach (e :: es) X.env = (false, eval e X.env) :: starEach es X.env := by rfl) : SA X (e :: es) (aCons f fl) := by
  refine ⟨weakA (pa_cons ha hr.pa hs) fun σ H Q ⟨G, ρ, d, s, er, ef, k⟩ => ?_, fun ρ ds h => ?_⟩
  · obtain ⟨x, e1, ef⟩ := Option.bind_eq_some_iff.mp ef
    obtain ⟨xs, e2, rfl⟩ := Option.map_eq_some_iff.mp ef
    exact ⟨G, ρ, x, s, er, e1, fun v1 G1 H1 t1 r1 => ⟨G1, ρ, xs, t1.s, er.step t1, e2, fun vs G2 H2 t2 r2 => k _ G2 H2 (t1.trans t2) (Reps.cons (Rep.mono t2.g _ _ r1) r2)⟩⟩
  · obtain ⟨x, e1, ef⟩ := Option.bind_eq_some_iff.mp h
    obtain ⟨xs, e2, rfl⟩ := Option.map_eq_some_iff.mp ef
    rw [List.length_cons, List.length_cons, hr.len ρ xs e2]
theorem line1000 {n : Nat} (h : n ≤ 1000) : n ≤ sizeLine := Nat.le_of_lt (small1000 h)
theorem se_tup {x1} (h : SA X es fl) (hl : es.length ≤ 1000 := by decide) : SE X (.Tuple es x1 pos) (fun ρ => (fl ρ).map D.tup) := weak (pe_tup h.pa) fun σ H Q ⟨G, ρ, d, s, er, ef, k⟩ => by
  obtain ⟨xs, e1, rfl⟩ := Option.map_eq_some_iff.mp ef
  refine ⟨G, ρ, xs, s, er, e1, fun vs G1 H1 t1 r1 => ⟨by rw [← r1.length, h.len _ _ e1]; exact line1000 hl, fun p hp => ?_⟩⟩
  exact k _ _ _ (t1.trans (Step.new t1.s hp)) (rep_tup.mpr ⟨p, vs, rfl, SqT.of upd_same, Reps.mono (same_upd (t1.s.free hp)) _ _ r1⟩)
theorem sf_lst (h : SA X es fl) (hl : es.length ≤ 1000 := by decide) : SF X (.List es pos) fl := weak (pe_lst h.pa) fun σ H Q ⟨G, ρ, xs, s, er, ef, k⟩ => by
  refine ⟨G, ρ, xs, s, er, ef, fun vs G1 H1 t1 r1 => ⟨by rw [← r1.length, h.len _ _ ef]; exact line1000 hl, fun p hp => ?_⟩⟩
  exact k p vs G1 (upd H1 p (.lst vs)) (t1.trans (Step.newH t1.s hp)) (t1.h.free hp) (t1.s.free hp) upd_same r1

/-! ## calls of defs that only read -/
def spD (K : PySem.W.Frag) (f : List D → Option D) (n : Nat) : Sp := fun vs H Q _ => ∃ G ds d, Same G H ∧ Reps K G ds vs ∧ ds.length = n ∧ f ds = some d ∧ ∀ v G' H', Step G H G' H' → Rep K G' d v → Q v H'
theorem se_call {k n : Nat} {fa : Addr} {fd : FuncData} {ps : List Str} {F : List D → Option D} {x : Str} {p : Pos} (FO : FnOk X.prog X.w X.K X.mg X.base CX0 k fa fd ps (spD X.K F n)) (hr : Room k X.A) (hg : Gl X x) (hm : X.mg x = some (.ref fa)) (hk : PySem.W.keepIn X.K (.ref fa) = true)
    (hb : Binds X.K fd ps []) (hn : (e :: es).length = n) (ha : SA X (e :: es) fl) (hdb : (x == ("__debug__" : Str)) = false := by decide) (he : starEach (e :: es) X.env = (false, eval e X.env) :: starEach es X.env := by rfl)
    (hpl : (backTo pos (starEach es X.env)).any (·.1) = false := by rfl) : SE X (.Call (.Name x p) (e :: es) [] pos) (fun ρ => (fl ρ).bind F) :=
  weak (pe_call (E := E0) FO hr hg hm hk hb .nil pass0 ha.pa hdb he hpl) fun σ H Q ⟨G, ρ, d, s, er, ef, k⟩ => by
    obtain ⟨xs, e1, e2⟩ := Option.bind_eq_some_iff.mp ef
    refine ⟨G, ρ, xs, s, er, e1, fun vs G1 H1 t1 r1 => ?_⟩
    show spD X.K F n (vs ++ []) H1 Q E0
    rw [List.append_nil]
    exact ⟨G1, xs, d, t1.s, r1, by rw [ha.len _ _ e1, hn], e2, fun v G' H' t r => k v G' H' (t1.trans t) r⟩

/-- one argument, read -/
def cR (K : PySem.W.Frag) (op : D → Option D) : List V → Hp → VK → Prop := fun xs H Q => ∃ G d1 d x, xs = [x] ∧ Same G H ∧ RepR K G H d1 x ∧ op d1 = some d ∧ ∀ v G' H', Step G H G' H' → Rep K G' d v → Q v H'
/-- .. a new list -/
def cF (K : PySem.W.Frag) (op : D → Option (List D)) : List V → Hp → VK → Prop := fun xs H Q => ∃ G d1 ys x, xs = [x] ∧ Same G H ∧ RepR K G H d1 x ∧ op d1 = some ys ∧
  ∀ a vs G' H', Step G H G' H' → H a = none → G' a = none → H' a = some (.lst vs) → Reps K G' ys vs → Q (.ref a) H'
variable {x : Str} {p1 : Pos} {id T : String}
def b1 (f : Rho → Option D) (op : D → Option D) : Rho → Option D := fun ρ => (f ρ).bind op
theorem lift1 {K : PySem.W.Frag} {op : D → Option D} {σ : L2.St} {H : Hp} {Q : VK} (h : tE K (b1 f op) σ H Q) : tCB (cR K op) (tCons (tR K f) tNil) σ H Q := by
  obtain ⟨G, ρ, d, s, er, ef, k⟩ := h
  obtain ⟨d1, e1, ef⟩ := Option.bind_eq_some_iff.mp ef
  exact ⟨G, ρ, d1, s, er, e1, fun v1 G1 H1 t1 r1 => ⟨G1, d1, d, v1, rfl, t1.s, r1, ef, fun v G' H' t r => k v G' H' (t1.trans t) r⟩⟩
def b1F (f : Rho → Option D) (op : D → Option (List D)) : Rho → Option (List D) := fun ρ => (f ρ).bind op
theorem lift1F {K : PySem.W.Frag} {op : D → Option (List D)} {σ : L2.St} {H : Hp} {Q : VK} (h : tF K (b1F f op) σ H Q) : tCB (cF K op) (tCons (tR K f) tNil) σ H Q := by
  obtain ⟨G, ρ, d, s, er, ef, k⟩ := h
  obtain ⟨d1, e1, ef⟩ := Option.bind_eq_some_iff.mp ef
  exact ⟨G, ρ, d1, s, er, e1, fun v1 G1 H1 t1 r1 => ⟨G1, d1, d, v1, rfl, t1.s, r1, ef, fun a vs G' H' t h1 h2 h3 r => k a vs G' H' (t1.trans t) (t1.h.free h1) h2 h3 r⟩⟩
theorem se_call1 {op : D → Option D} (hc : CallR X (.builtin id) (cR X.K op)) (hg : Gl X x) (hm : X.mg x = none) (hv : bootBuiltins x = some (.builtin id)) (ha : SR X a f) (hn : x ≠ "__name__" := by decide) (hdb : (x == ("__debug__" : Str)) = false := by decide)
    (hs : starEach [a] X.env = (false, eval a X.env) :: starEach [] X.env := by rfl) (he : starEach [a] X.env = (false, eval a X.env) :: starEach [] X.env := by rfl) (hpl : (backTo pos (starEach [] X.env)).any (·.1) = false := by rfl) : SE X (.Call (.Name x p1) [a] [] pos) (b1 f op) :=
  weak (pe_callB hc hg hm hv (pa_cons ha pa_nil hs) hn hdb he hpl) fun _ _ _ h => lift1 h
theorem se_callT1 {op : D → Option D} (hc : CallR X (.type T) (cR X.K op)) (hg : Gl X x) (hm : X.mg x = none) (hv : bootBuiltins x = some (.type T)) (ha : SR X a f) (hn : x ≠ "__name__" := by decide) (hdb : (x == ("__debug__" : Str)) = false := by decide)
    (hs : starEach [a] X.env = (false, eval a X.env) :: starEach [] X.env := by rfl) (he : starEach [a] X.env = (false, eval a X.env) :: starEach [] X.env := by rfl) (hpl : (backTo pos (starEach [] X.env)).any (·.1) = false := by rfl) : SE X (.Call (.Name x p1) [a] [] pos) (b1 f op) :=
  weak (pe_callTy hc hg hm hv (pa_cons ha pa_nil hs) hn hdb he hpl) fun _ _ _ h => lift1 h
theorem sf_call1 {op : D → Option (List D)} (hc : CallR X (.builtin id) (cF X.K op)) (hg : Gl X x) (hm : X.mg x = none) (hv : bootBuiltins x = some (.builtin id)) (ha : SR X a f) (hn : x ≠ "__name__" := by decide) (hdb : (x == ("__debug__" : Str)) = false := by decide)
    (hs : starEach [a] X.env = (false, eval a X.env) :: starEach [] X.env := by rfl) (he : starEach [a] X.env = (false, eval a X.env) :: starEach [] X.env := by rfl) (hpl : (backTo pos (starEach [] X.env)).any (·.1) = false := by rfl) : SF X (.Call (.Name x p1) [a] [] pos) (b1F f op) :=
  weak (pe_callB hc hg hm hv (pa_cons ha pa_nil hs) hn hdb he hpl) fun _ _ _ h => lift1F h
theorem sf_callT1 {op : D → Option (List D)} (hc : CallR X (.type T) (cF X.K op)) (hg : Gl X x) (hm : X.mg x = none) (hv : bootBuiltins x = some (.type T)) (ha : SR X a f) (hn : x ≠ "__name__" := by decide) (hdb : (x == ("__debug__" : Str)) = false := by decide)
    (hs : starEach [a] X.env = (false, eval a X.env) :: starEach [] X.env := by rfl) (he : starEach [a] X.env = (false, eval a X.env) :: starEach [] X.env := by rfl) (hpl : (backTo pos (starEach [] X.env)).any (·.1) = false := by rfl) : SF X (.Call (.Name x p1) [a] [] pos) (b1F f op) :=
  weak (pe_callTy hc hg hm hv (pa_cons ha pa_nil hs) hn hdb he hpl) fun _ _ _ h => lift1F h
end
end RD

set_option Elab.async false
set_option linter.all false
set_option maxRecDepth 100000
namespace RD
open PySem PySem.Spec PyProof.Rows L2

/-! # statements -/
inductive Out where
  | nx (ρ : Rho) | rt (d : D) | bk (ρ : Rho) | ct (ρ : Rho)
def Post (K : PySem.W.Frag) (G0 H0 : Hp) (E : Ends) : Out → Prop
  | .nx ρ => ∀ σ G H, StR K G0 H0 G H ρ σ → E.nx σ H
  | .bk ρ => ∀ σ G H, StR K G0 H0 G H ρ σ → E.bk σ H
  | .ct ρ => ∀ σ G H, StR K G0 H0 G H ρ σ → E.ct σ H
  | .rt d => ∀ v G H, Bs G0 H0 G H → Rep K G d v → E.rt v H
def tS (K : PySem.W.Frag) (F : Rho → Option Out) : TS := fun E σ H => ∃ G0 H0 G ρ o, StR K G0 H0 G H ρ σ ∧ F ρ = some o ∧ Post K G0 H0 E o
abbrev SS (X : Cx) (s : Stmt) (F : Rho → Option Out) : Prop := PS X s (tS X.K F)
abbrev SSs (X : Cx) (s : List Stmt) (F : Rho → Option Out) : Prop := PSs X s (tS X.K F)

section
variable {X : Cx} {e a b : Expr} {es : List Expr} {f g : Rho → Option D} {fl : Rho → Option (List D)} {p : Rho → Option Bool} {pos : Pos} {F F' : Rho → Option Out} {st : Stmt} {rest : List Stmt}
def sq (F F' : Rho → Option Out) : Rho → Option Out := fun ρ => (F ρ).bind fun o => match o with
  | .nx ρ' => F' ρ'
  | o => some o
theorem ss_nil : SSs X [] (fun ρ => some (.nx ρ)) := weakSs pss_nil fun Q σ H ⟨G0, H0, G, ρ, o, st, ef, k⟩ => by cases ef; exact k σ G H st
theorem ss_cons (h1 : SS X st F) (h2 : SSs X rest F') : SSs X (st :: rest) (sq F F') := weakSs (pss_cons h1 h2) fun Q σ H ⟨G0, H0, G, ρ, o, st, ef, k⟩ => by
  obtain ⟨o1, e1, e2⟩ := Option.bind_eq_some_iff.mp ef
  refine ⟨G0, H0, G, ρ, o1, st, e1, ?_⟩
  cases o1 with
  | nx ρ' => exact fun σ' G' H' st' => ⟨G0, H0, G', ρ', o, st', e2, k⟩
  | rt d => cases e2; exact k
  | bk d => cases e2; exact k
  | ct d => cases e2; exact k
theorem ss_one (h1 : SS X st F) : SSs X [st] F := pss_one h1
/-- from here on the list of slot i stays as it is -/
theorem ss_frz (i : Nat) (h : SSs X rest F) : SSs X rest (fun ρ => F (frz i ρ)) := weakSs h fun Q σ H ⟨G0, H0, G, ρ, o, st, ef, k⟩ => by
  obtain ⟨G', sG, st'⟩ := st.frz i
  exact ⟨G0, H0, G', frz i ρ, o, st', ef, k⟩
def sRet (f : Rho → Option D) : Rho → Option Out := fun ρ => (f ρ).map .rt
theorem ss_ret (he : SE X e f) : SS X (.Return (some e) pos) (sRet f) := weakS (ps_ret he) fun Q σ H ⟨G0, H0, G, ρ, o, st, ef, k⟩ => by
  obtain ⟨d, e1, rfl⟩ := Option.map_eq_some_iff.mp ef
  exact ⟨G, ρ, d, st.bs.gh, st.er, e1, fun v G' H' t r => k v G' H' (st.bs.step t) r⟩
def sIf (c : Rho → Option Bool) (F F' : Rho → Option Out) : Rho → Option Out := fun ρ => (c ρ).bind fun b => if b = true then F ρ else F' ρ
theorem ss_if {c : Expr} {A B : List Stmt} (hc : SB X c p) (ha : SSs X A F) (hb : SSs X B F') : SS X (.If c A B pos) (sIf p F F') := weakS (ps_if hc ha hb) fun Q σ H ⟨G0, H0, G, ρ, o, st, ef, k⟩ => by
  obtain ⟨d, e1, e2⟩ := Option.bind_eq_some_iff.mp ef
  refine ⟨G, ρ, d, st.bs.gh, st.er, e1, fun G' H' t => ?_⟩
  cases d with
  | true => rw [if_pos rfl] at e2 ⊢; exact ⟨G0, H0, G', ρ, o, st.step t, e2, k⟩
  | false => rw [if_neg Bool.false_ne_true] at e2 ⊢; exact ⟨G0, H0, G', ρ, o, st.step t, e2, k⟩
def sSet (i : Nat) (f : Rho → Option D) : Rho → Option Out := fun ρ => (f ρ).map fun d => .nx (ρ.set i (.v d))
def sSetL (i : Nat) (f : Rho → Option (List D)) : Rho → Option Out := fun ρ => (f ρ).map fun d => .nx (ρ.set i (.l d))
variable {i : Nat} {x : Str} {pos' : Pos}
theorem ss_set (i : Nat) (he : SE X e f) (hN : X.N.Nodup) (hi : X.N[i]? = some x) (hx : Loc X.env.scope x) (hs : swapsWith e (some (.Name x pos')) pos.line X.env = pure false := by rfl)
    (hf : X.fn x = true ∨ X.env.scope.names.lookup x = some .local := by first | exact .inl rfl | exact .inr rfl | assumption) : SS X (.Assign [.Name x pos'] e pos) (sSet i f) :=
  weakS (ps_set hN hi hx he hs hf) fun Q σ H ⟨G0, H0, G, ρ, o, st, ef, k⟩ => by
    obtain ⟨d, e1, rfl⟩ := Option.map_eq_some_iff.mp ef
    exact ⟨G, ρ, d, st.bs.gh, st.er, e1, fun v G' H' t r => k _ G' H' ((st.step t).setV r)⟩
/-- x = y, y an owned list, is left out: a new list of x's own -/
theorem ss_setL (i : Nat) (he : SF X e fl) (hN : X.N.Nodup) (hi : X.N[i]? = some x) (hx : Loc X.env.scope x) (hs : swapsWith e (some (.Name x pos')) pos.line X.env = pure false := by rfl)
    (hf : X.fn x = true ∨ X.env.scope.names.lookup x = some .local := by first | exact .inl rfl | exact .inr rfl | assumption) : SS X (.Assign [.Name x pos'] e pos) (sSetL i fl) :=
  weakS (ps_set hN hi hx he hs hf) fun Q σ H ⟨G0, H0, G, ρ, o, st, ef, k⟩ => by
    obtain ⟨d, e1, rfl⟩ := Option.map_eq_some_iff.mp ef
    refine ⟨G, ρ, d, st.bs.gh, st.er, e1, fun a vs G' H' t h1 h2 h3 r => k _ G' H' (st.setOwn t rfl h1 h2 (fun xs z => ?_) fun _ z => by cases z)⟩
    cases z; exact ⟨vs, h3, r⟩

/-! ## targets -/
def tGt (K : PySem.W.Frag) (g : D → Rho → Option Rho) : TG := fun v σ H Q => ∃ G0 H0 G ρ d ρ', StR K G0 H0 G H ρ σ ∧ Rep K G d v ∧ g d ρ = some ρ' ∧ ∀ σ', StR K G0 H0 G H ρ' σ' → Q σ' H
def tGts (K : PySem.W.Frag) (g : List D → Rho → Option Rho) : TGs := fun vs σ H Q => ∃ G0 H0 G ρ ds ρ', StR K G0 H0 G H ρ σ ∧ Reps K G ds vs ∧ g ds ρ = some ρ' ∧ ∀ σ', StR K G0 H0 G H ρ' σ' → Q σ' H
abbrev SG (X : Cx) (e : Expr) (g : D → Rho → Option Rho) : Prop := PG X e (tGt X.K g)
abbrev SGs (X : Cx) (e : List Expr) (g : List D → Rho → Option Rho) : Prop := PGs X e (tGts X.K g)
theorem weakG {X : Cx} {e : Expr} {t t' : TG} (h : PG X e t) (w : ∀ v σ H Q, t' v σ H Q → t v σ H Q) : PG X e t' := fun pins s σ H v u Q I r q => h pins s σ H v u Q I r (w v σ H Q q)
theorem weakGs {X : Cx} {e : List Expr} {t t' : TGs} (h : PGs X e t) (w : ∀ v σ H Q, t' v σ H Q → t v σ H Q) : PGs X e t' := fun pins s σ H v u Q I r q => h pins s σ H v u Q I r (w v σ H Q q)
def gN (i : Nat) : D → Rho → Option Rho := fun d ρ => some (ρ.set i (.v d))
theorem sg_name (i : Nat) (hN : X.N.Nodup) (hi : X.N[i]? = some x) (hx : Loc X.env.scope x) (hf : X.fn x = true ∨ X.env.scope.names.lookup x = some .local := by first | exact .inl rfl | exact .inr rfl | assumption) : SG X (.Name x pos) (gN i) :=
  weakG (pg_name hN hi hx hf) fun v σ H Q ⟨G0, H0, G, ρ, d, ρ', st, r, e, k⟩ => by
    cases e
    exact k _ (st.setV r)
def gNl : List D → Rho → Option Rho := fun ds ρ => match ds with
  | [] => some ρ
  | _ => none
def gCs (g : D → Rho → Option Rho) (gs : List D → Rho → Option Rho) : List D → Rho → Option Rho := fun ds ρ => match ds with
  | [] => none
  | d :: r => (g d ρ).bind fun ρ' => gs r ρ'
theorem sgs_nil : SGs X [] gNl := weakGs pgs_nil fun v σ H Q ⟨G0, H0, G, ρ, ds, ρ', st, r, e, k⟩ => by
  cases ds with
  | nil => cases e; exact ⟨reps_nil.mp r, k σ st⟩
  | cons _ _ => cases e
theorem sgs_cons {gd : D → Rho → Option Rho} {gs : List D → Rho → Option Rho} (h1 : SG X e gd) (h2 : SGs X es gs) (hs : (assignEach (e :: es) X.env).map (·.2) = assign e X.env :: (assignEach es X.env).map (·.2) := by rfl) : SGs X (e :: es) (gCs gd gs) :=
  weakGs (pgs_cons h1 h2 hs) fun vs σ H Q ⟨G0, H0, G, ρ, ds, ρ', st, r, e, k⟩ => by
    cases ds with
    | nil => cases e
    | cons d ds =>
      obtain ⟨v, r', rfl, rd, rs⟩ := reps_cons.mp r
      obtain ⟨ρ1, e1, e2⟩ := Option.bind_eq_some_iff.mp e
      exact ⟨v, r', rfl, G0, H0, G, ρ, d, ρ1, st, rd, e1, fun σ' st' => ⟨G0, H0, G, ρ1, ds, ρ', st', rs, e2, k⟩⟩
def gT (n : Nat) (gs : List D → Rho → Option Rho) : D → Rho → Option Rho := fun d ρ => match d with
  | .tup ds => if ds.length = n then gs ds ρ else none
  | _ => none
theorem sg_tup {k n : Nat} {gs : List D → Rho → Option Rho} (hc : X.calm = true) (h : SGs X es gs) (hn : (assignEach es X.env).length = n := by rfl) (hst : (assignEach es X.env).findIdx? (·.1) = none := by rfl) : SG X (.Tuple es k pos) (gT n gs) :=
  weakG (pg_tup hc h hn hst) fun v σ H Q ⟨G0, H0, G, ρ, d, ρ', st, r, e, k⟩ => by
    cases d with
    | tup ds =>
      simp only [gT] at e
      split at e
      · rename_i hl
        obtain ⟨a, vs, rfl, q, rs⟩ := rep_tup.mp r
        exact ⟨a, vs, rfl, same_tup st.bs.gh q, by rw [← rs.length]; exact hl, G0, H0, G, ρ, ds, ρ', st, rs, e, k⟩
      · cases e
    | _ => cases e
def sAsg (f : Rho → Option D) (g : D → Rho → Option Rho) : Rho → Option Out := fun ρ => (f ρ).bind fun d => (g d ρ).map .nx
theorem ss_asg {tg : Expr} {gd : D → Rho → Option Rho} (he : SE X e f) (hg : SG X tg gd) (hs : swapsWithSole [tg] e pos.line X.env = pure false := by rfl) (hw : swappedStores [tg] e X.env = pure none := by rfl)
    (h1 : (assignEach [tg] X.env).map (·.2) = [assign tg X.env] := by rfl) : SS X (.Assign [tg] e pos) (sAsg f gd) :=
  weakS (ps_asg he hg hs hw h1) fun Q σ H ⟨G0, H0, G, ρ, o, st, ef, k⟩ => by
    obtain ⟨d, e1, e2⟩ := Option.bind_eq_some_iff.mp ef
    obtain ⟨ρ', e3, rfl⟩ := Option.map_eq_some_iff.mp e2
    exact ⟨G, ρ, d, st.bs.gh, st.er, e1, fun v G' H' t r => ⟨G0, H0, G', ρ, d, ρ', st.step t, r, e3, fun σ' st' => k σ' G' H' st'⟩⟩

/-! ## loops -/
/-- what an iterator hands out -/
structure Itr' (K : PySem.W.Frag) (G : Hp) (J : It) (ds : List D) : Prop where
  go : ∀ i H, Same G H → i < ds.length → J.go i H
  stop : ∀ i H, Same G H → ds.length ≤ i → J.stop i H
  yld : ∀ i G1 H x H', Same G G1 → Same G1 H → i < ds.length → J.yld i H x H' → ∃ G2, Step G1 H G2 H' ∧ ∀ d, ds[i]? = some d → Rep K G2 d x
def tI (K : PySem.W.Frag) (f : Rho → Option (List D)) : TI := fun σ H R => ∃ G ρ ds, Same G H ∧ Er K G H ρ σ ∧ f ρ = some ds ∧ ∀ J G' H', Step G H G' H' → Itr' K G' J ds → R J H'
abbrev SI (X : Cx) (tg iter : Expr) (f : Rho → Option (List D)) : Prop := PI X tg iter (tI X.K f)
theorem weakI {X : Cx} {tg e : Expr} {t t' : TI} (h : PI X tg e t) (w : ∀ σ H Q, t' σ H Q → t σ H Q) : PI X tg e t' := fun pins s σ H Q I q => h pins s σ H Q I (w σ H Q q)
def forD (g : D → Rho → Option Rho) (F : Rho → Option Out) : List D → Rho → Option Out
  | [], ρ => some (.nx ρ)
  | d :: ds, ρ => (g d ρ).bind fun ρ1 => (F ρ1).bind fun o => match o with
    | .nx ρ' => forD g F ds ρ'
    | .ct ρ' => forD g F ds ρ'
    | .bk ρ' => some (.nx ρ')
    | .rt d => some (.rt d)
def sFor (f : Rho → Option (List D)) (g : D → Rho → Option Rho) (F : Rho → Option Out) : Rho → Option Out := fun ρ => (f ρ).bind fun ds => forD g F ds ρ

/-- another base: what stands now -/
noncomputable def notOwn (H : Hp) (ρ : Rho) (σ : L2.St) : Hp := fun b => @ite _ (∃ (i : Nat) (s : Sl), ρ[i]? = some s ∧ s.isOwn = true ∧ σ[i]? = some (some (.ref b))) (Classical.propDecidable _) none (H b)
theorem notOwn_same {H : Hp} {ρ : Rho} {σ : L2.St} : Same (notOwn H ρ σ) H := fun b o e => by
  unfold notOwn at e
  split at e
  · cases e
  · exact e
theorem notOwn_own {H : Hp} {ρ : Rho} {σ : L2.St} {b : Addr} {i : Nat} {s : Sl} (h : ρ[i]? = some s) (o : s.isOwn = true) (q : σ[i]? = some (some (.ref b))) : notOwn H ρ σ b = none := by
  unfold notOwn
  rw [if_pos ⟨i, s, h, o, q⟩]
theorem StR.base {K : PySem.W.Frag} {G0 H0 G H : Hp} {ρ : Rho} {σ : L2.St} (s : StR K G0 H0 G H ρ σ) : StR K G (notOwn H ρ σ) G H ρ σ ∧ Same G0 G ∧ Same H0 (notOwn H ρ σ) := by
  refine ⟨⟨s.er, ⟨s.bs.gh, Same.refl _, notOwn_same, fun b o e n => by rw [e] at n; cases n⟩, fun i u a h o q => notOwn_own h o q⟩, s.bs.gg, fun b o e => ?_⟩
  unfold notOwn
  split
  · rename_i h
    obtain ⟨i, u, h1, h2, h3⟩ := h
    rw [s.ow i u b h1 h2 h3] at e; cases e
  · exact s.bs.hh b o e
/-- back to the elder base -/
theorem Bs.back {G0 H0 G1 H1 G H : Hp} (f : ∀ b o, G1 b = some o → G0 b = none → H0 b = none) (g : Same G0 G1) (h : Same H0 H1) (b : Bs G1 H1 G H) : Bs G0 H0 G H :=
  ⟨b.gh, g.trans b.gg, h.trans b.hh, fun c o e n => by
    cases q : G1 c with
    | some o' => exact f c o' q n
    | none => exact h.free (b.fr c o e q)⟩
theorem StR.back {K : PySem.W.Frag} {G0 H0 G1 H1 G H : Hp} {ρ : Rho} {σ : L2.St} (f : ∀ b o, G1 b = some o → G0 b = none → H0 b = none) (g : Same G0 G1) (h : Same H0 H1) (s : StR K G1 H1 G H ρ σ) : StR K G0 H0 G H ρ σ :=
  ⟨s.er, s.bs.back f g h, fun i u a q o p => h.free (s.ow i u a q o p)⟩
theorem Post.back {K : PySem.W.Frag} {G0 H0 G1 H1 : Hp} {E : Ends} {o : Out} (f : ∀ b o, G1 b = some o → G0 b = none → H0 b = none) (g : Same G0 G1) (h : Same H0 H1) (k : Post K G0 H0 E o) : Post K G1 H1 E o := by
  cases o with
  | nx ρ => exact fun σ G H s => k σ G H (s.back f g h)
  | bk ρ => exact fun σ G H s => k σ G H (s.back f g h)
  | ct ρ => exact fun σ G H s => k σ G H (s.back f g h)
  | rt d => exact fun v G H b r => k v G H (b.back f g h) r

theorem ss_for {tg iter : Expr} {body : List Stmt} {gd : D → Rho → Option Rho} (hp : PassesOwn (model X.prog X.w) X.A X.env X.xe) (hc : X.calm = true) (hi : SI X tg iter fl) (hg : SG X tg gd) (hb : SSs X body F)
    (hs : ∀ x, foldedSetIterable iter X.env x = pure x := by intro _; rfl) : SS X (.For tg iter body [] pos) (sFor fl gd F) :=
  weakS (ps_for hp hc hi hg hb hs) fun E σ H ⟨G0, H0, G, ρ, o, st, ef, k⟩ => by
    obtain ⟨ds, e1, e2⟩ := Option.bind_eq_some_iff.mp ef
    refine ⟨G, ρ, ds, st.bs.gh, st.er, e1, fun J G1 H1 t1 it => ?_⟩
    obtain ⟨st1, sg, sh⟩ := (st.step t1).base
    have k1 := k.back (st.step t1).bs.fr sg sh
    generalize hH : notOwn H1 ρ σ = H1' at st1 k1 sh
    refine ⟨fun i m σ' H' => m = ds.length - i ∧ i ≤ ds.length ∧ ∃ G' ρ', StR X.K G1 H1' G' H' ρ' σ' ∧ forD gd F (ds.drop i) ρ' = some o, ⟨ds.length, by simp, Nat.zero_le _, G1, ρ, st1, by simpa using e2⟩, ?_⟩
    rintro i m σ2 H2 ⟨rfl, hi, G2, ρ2, st2, ef2⟩
    by_cases hlt : i < ds.length
    · right
      have ed : ds.drop i = ds[i] :: ds.drop (i + 1) := List.drop_eq_getElem_cons hlt
      rw [ed] at ef2
      obtain ⟨ρ3, e3, e4⟩ := Option.bind_eq_some_iff.mp ef2
      obtain ⟨o3, e5, e6⟩ := Option.bind_eq_some_iff.mp e4
      refine ⟨it.go i H2 (st2.bs.gg.trans st2.bs.gh) hlt, fun σ' H' => ∃ G' ρ', StR X.K G1 H1' G' H' ρ' σ' ∧ forD gd F (ds.drop (i + 1)) ρ' = some o, fun σ' H' h => ⟨ds.length - (i + 1), by omega, rfl, hlt, h⟩, fun x H' y => ?_⟩
      obtain ⟨G3, t3, r3⟩ := it.yld i G2 H2 x H' st2.bs.gg st2.bs.gh hlt y
      refine ⟨G1, H1', G3, ρ2, ds[i], ρ3, st2.step t3, r3 _ (by simp [hlt]), e3, fun σ4 st4 => ⟨G1, H1', G3, ρ3, o3, st4, e5, ?_⟩⟩
      cases o3 with
      | nx ρ' => exact fun σ5 G5 H5 st5 => ⟨G5, ρ', st5, e6⟩
      | ct ρ' => exact fun σ5 G5 H5 st5 => ⟨G5, ρ', st5, e6⟩
      | bk ρ' => cases e6; exact k1
      | rt d => cases e6; exact k1
    · left
      have e : i = ds.length := by omega
      subst e
      rw [List.drop_length] at ef2
      cases ef2
      exact ⟨it.stop _ H2 (st2.bs.gg.trans st2.bs.gh) (Nat.le_refl _), k1 σ2 G2 H2 st2⟩

/-- while: n turns at most -/
def whileD (c : Rho → Option Bool) (F : Rho → Option Out) : Nat → Rho → Option Out
  | 0, _ => none
  | n + 1, ρ => (c ρ).bind fun b => if b = true then (F ρ).bind fun o => match o with
      | .nx ρ' => whileD c F n ρ'
      | .ct ρ' => whileD c F n ρ'
      | .bk ρ' => some (.nx ρ')
      | .rt d => some (.rt d)
    else some (.nx ρ)
/-! ## what is walked -/
theorem it_list {K : PySem.W.Frag} {G : Hp} {a : Addr} {vs : List V} {ds : List D} (h : SqL K G a vs) (r : Reps K G ds vs) : Itr' K G (Itl K a) ds where
  go := fun i H s hi => ⟨vs, vs[i]'(by rw [← r.length]; exact hi), s.seq h, by simp [← r.length, hi]⟩
  stop := fun i H s hi => ⟨vs, s.seq h, by rw [← r.length]; exact hi⟩
  yld := fun i G1 H x H' s1 s hi y => by
    obtain ⟨rfl, y⟩ := y
    refine ⟨G1, Step.refl s, fun d e => ?_⟩
    obtain ⟨v, e1, e2⟩ := r.get e
    have := y vs ((s1.trans s).seq h)
    rw [e1] at this; cases this
    exact Rep.mono s1 _ _ e2
theorem it_tup {K : PySem.W.Frag} {G : Hp} {a : Addr} {vs : List V} {ds : List D} (h : SqT K G a vs) (r : Reps K G ds vs) : Itr' K G (Itt K a) ds where
  go := fun i H s hi => ⟨vs, vs[i]'(by rw [← r.length]; exact hi), same_tup s h, by simp [← r.length, hi]⟩
  stop := fun i H s hi => ⟨vs, same_tup s h, by rw [← r.length]; exact hi⟩
  yld := fun i G1 H x H' s1 s hi y => by
    obtain ⟨rfl, y⟩ := y
    refine ⟨G1, Step.refl s, fun d e => ?_⟩
    obtain ⟨v, e1, e2⟩ := r.get e
    have := y vs (same_tup (s1.trans s) h)
    rw [e1] at this; cases this
    exact Rep.mono s1 _ _ e2
def rng (lo : Int) (n : Nat) : List D := (List.range n).map fun (i : Nat) => D.int (lo + (i : Int))
theorem it_rng {K : PySem.W.Frag} {G : Hp} (lo : Int) (n : Nat) : Itr' K G (L2.Itr lo n) (rng lo n) where
  go := fun i H s hi => by show i < n; simpa [rng] using hi
  stop := fun i H s hi => by show n ≤ i; simpa [rng] using hi
  yld := fun i G1 H x H' s1 s hi y => by
    obtain ⟨rfl, rfl⟩ := y
    refine ⟨G1, Step.refl s, fun d e => ?_⟩
    simp only [rng, List.getElem?_map, List.length_map, List.length_range] at e hi
    rw [List.getElem?_range hi] at e
    cases e
    exact rep_int.mpr rfl
def asL : D → Option (List D)
  | .lst xs => some xs
  | _ => none
def asT : D → Option (List D)
  | .tup xs => some xs
  | _ => none
def iL (f : Rho → Option D) : Rho → Option (List D) := fun ρ => (f ρ).bind asL
def iT (f : Rho → Option D) : Rho → Option (List D) := fun ρ => (f ρ).bind asT
variable {tg : Expr}
theorem si_list (h : SE X e f) : SI X tg e (iL f) := weakI (pi_list h) fun σ H R ⟨G, ρ, ds, s, er, ef, k⟩ => by
  obtain ⟨d, e1, e2⟩ := Option.bind_eq_some_iff.mp ef
  cases d with
  | lst xs =>
    cases e2
    refine ⟨G, ρ, _, s, er, e1, fun v G' H' t r => ?_⟩
    obtain ⟨a, vs, rfl, q, rs⟩ := rep_lst.mp r
    exact ⟨a, rfl, ⟨vs, t.s.seq q⟩, k _ G' H' t (it_list q rs)⟩
  | _ => cases e2
theorem si_tup (h : SE X e f) : SI X tg e (iT f) := weakI (pi_tup h) fun σ H R ⟨G, ρ, ds, s, er, ef, k⟩ => by
  obtain ⟨d, e1, e2⟩ := Option.bind_eq_some_iff.mp ef
  cases d with
  | tup xs =>
    cases e2
    refine ⟨G, ρ, _, s, er, e1, fun v G' H' t r => ?_⟩
    obtain ⟨a, vs, rfl, q, rs⟩ := rep_tup.mp r
    exact ⟨a, rfl, ⟨vs, same_tup t.s q⟩, k _ G' H' t (it_tup q rs)⟩
  | _ => cases e2
def inR (j : Int) : Bool := decide (-(2 ^ 62) ≤ j) && decide (j < 2 ^ 62)
theorem inR_eq {j : Int} (h : inR j = true) : -(2 ^ 62) ≤ j ∧ j < 2 ^ 62 := by simpa [inR] using h
def iR1 (f : Rho → Option (List D)) : Rho → Option (List D) := fun ρ => (f ρ).bind fun ds => match ds with
  | [.int j] => if inR j = true then some (rng 0 j.toNat) else none
  | _ => none
def iR2 (f : Rho → Option (List D)) : Rho → Option (List D) := fun ρ => (f ρ).bind fun ds => match ds with
  | [.int i, .int j] => if (inR i && inR j) = true then some (rng i (j - i).toNat) else none
  | _ => none
theorem si_range1 {p pos : Pos} (hg : Gl X "range") (hm : X.mg "range" = none) (ha : SA X [a] fl) (hs : starEach [a] X.env = [(false, eval a X.env)] := by rfl) : SI X tg (.Call (.Name "range" p) [a] [] pos) (iR1 fl) :=
  weakI (pi_range1 hg hm ha.pa hs) fun σ H R ⟨G, ρ, ds, s, er, ef, k⟩ => by
    obtain ⟨xs, e1, e2⟩ := Option.bind_eq_some_iff.mp ef
    split at e2
    · rename_i j
      split at e2
      · rename_i hj
        cases e2
        refine ⟨G, ρ, _, s, er, e1, fun vs G' H' t r => ?_⟩
        obtain ⟨v, r', rfl, r1, r2⟩ := reps_cons.mp r
        have := reps_nil.mp r2
        subst this
        exact ⟨j, by rw [rep_int.mp r1], (inR_eq hj).1, (inR_eq hj).2, k _ G' H' t (it_rng _ _)⟩
      · cases e2
    · cases e2
theorem si_range2 {p pos : Pos} (hg : Gl X "range") (hm : X.mg "range" = none) (ha : SA X [a, b] fl) (hs : starEach [a, b] X.env = [(false, eval a X.env), (false, eval b X.env)] := by rfl) (hs2 : starEach [b] X.env = [(false, eval b X.env)] := by rfl) : SI X tg (.Call (.Name "range" p) [a, b] [] pos) (iR2 fl) :=
  weakI (pi_range2 hg hm ha.pa hs hs2) fun σ H R ⟨G, ρ, ds, s, er, ef, k⟩ => by
    obtain ⟨xs, e1, e2⟩ := Option.bind_eq_some_iff.mp ef
    split at e2
    · rename_i i j
      split at e2
      · rename_i hj
        cases e2
        rw [Bool.and_eq_true] at hj
        refine ⟨G, ρ, _, s, er, e1, fun vs G' H' t r => ?_⟩
        obtain ⟨v, r', rfl, r1, r2⟩ := reps_cons.mp r
        obtain ⟨v', r'', rfl, r3, r4⟩ := reps_cons.mp r2
        have := reps_nil.mp r4
        subst this
        exact ⟨i, j, by rw [rep_int.mp r1, rep_int.mp r3], ⟨(inR_eq hj.1).1, (inR_eq hj.1).2, (inR_eq hj.2).1, (inR_eq hj.2).2⟩, k _ G' H' t (it_rng _ _)⟩
      · cases e2
    · cases e2

/-! ## lists of a name's own: append, extend, pop, [i] = -/
def gL (ρ : Rho) (i : Nat) : Option (List D) := match ρ[i]? with
  | some (.l xs) => some xs
  | _ => none
theorem gL_eq {ρ : Rho} {i : Nat} {xs : List D} (h : gL ρ i = some xs) : ρ[i]? = some (.l xs) := by
  unfold gL at h
  split at h
  · cases h; assumption
  · cases h
end
/-- a def's contract from its body -/
def runD (N : List Str) (F : Rho → Option Out) (ds : List D) : Option D := (F (ds.map Sl.v ++ List.replicate (N.length - ds.length) .un)).bind fun o => match o with
  | .rt d => some d
  | .nx _ => some .non
  | _ => none
theorem er_start {K : PySem.W.Frag} {G H : Hp} {N : List Str} {ds : List D} {vs : List V} (r : Reps K G ds vs) : Er K G H (ds.map Sl.v ++ List.replicate (N.length - ds.length) .un) (L2.start N vs) := by
  have hl := r.length
  have low : ∀ {i : Nat} {s : Sl}, (ds.map Sl.v ++ List.replicate (N.length - ds.length) .un)[i]? = some s → s = .un ∨ ∃ d, s = .v d ∧ ds[i]? = some d := fun {i s} h => by
    by_cases hi : i < ds.length
    · rw [List.getElem?_append_left (by simpa using hi), List.getElem?_map] at h
      cases q : ds[i]? with
      | none => rw [q] at h; cases h
      | some d => rw [q] at h; cases h; exact .inr ⟨d, rfl, rfl⟩
    · rw [List.getElem?_append_right (by simpa using hi), List.getElem?_replicate] at h
      split at h <;> cases h
      exact .inl rfl
  refine ⟨by simp [L2.start, hl], fun i d h => ?_, fun i xs h => ?_, fun i xs h => ?_, fun i j s t a ne h1 o1 h2 o2 q1 q2 => ?_⟩
  · rcases low h with z | ⟨d', z, q⟩
    · cases z
    · cases z
      obtain ⟨v, e1, e2⟩ := r.get q
      have hi : i < vs.length := (List.getElem?_eq_some_iff.mp e1).1
      refine ⟨v, ?_, e2⟩
      unfold L2.start
      rw [List.getElem?_append_left (by simpa using hi), List.getElem?_map, e1]; rfl
  · rcases low h with z | ⟨d', z, q⟩ <;> cases z
  · rcases low h with z | ⟨d', z, q⟩ <;> cases z
  · rcases low h1 with z | ⟨d', z, q⟩ <;> subst z <;> cases o1
theorem fn_mk {P : Program} {w : World} {K : PySem.W.Frag} {mg : Str → Option Value} {base : Heap} {x qual : Str} {st : Stmt} {fa : Addr} {fd : FuncData} {N ps : List Str} {k : Nat} {F : Rho → Option Out} {f : List D → Option D}
    (FF : Fun K x qual st fa fd) (S : FnScope N ps (defScope st))
    (hbody : ∀ (cdv : Value) (A : Around) (outer : List Env) (s : Shared) (H : Hp), Room k (A.deeper (envOfC qual (defScope st) s.heap.objs.size fa cdv)) → SSs (cxOf CX0 P w K mg base N qual (defScope st) fa cdv A outer s H E0).nox (defBody st) F)
    (hf : ∀ ds d, ds.length = ps.length → f ds = some d → runD N F ds = some d) : FnOk P w K mg base CX0 (k + 1) fa fd ps (spD K f ps.length) := by
  refine FF.ok S (fun vs H Q E h => ?_) (fun cdv A outer s H vs Q E hr h => ?_)
  · obtain ⟨G, ds, d, _, r, hn, _⟩ := h
    rw [← r.length, hn]
  · obtain ⟨G, ds, d, sm, r, hn, ef, kk⟩ := h
    have h1 : SSs (cxOf CX0 P w K mg base N qual (defScope st) fa cdv A outer s H E).nox (defBody st) F := hbody cdv A outer s H hr
    refine ⟨_, h1, ?_⟩
    obtain ⟨o, e1, e2⟩ := Option.bind_eq_some_iff.mp (hf ds d hn ef)
    have er := er_start (N := N) (H := H) r
    refine ⟨G, H, G, _, o, ⟨er, ⟨sm, Same.refl _, Same.refl _, fun b o e n => by rw [e] at n; cases n⟩, fun i u a h1 h2 h3 => ?_⟩, e1, ?_⟩
    · obtain ⟨a', u', e3, e4, e5⟩ := er.ownAt h1 h2
      exfalso
      by_cases hi : i < ds.length
      · rw [List.getElem?_append_left (by simpa using hi), List.getElem?_map] at h1
        cases q : ds[i]? with
        | none => rw [q] at h1; cases h1
        | some d => rw [q] at h1; cases h1; cases h2
      · rw [List.getElem?_append_right (by simpa using hi), List.getElem?_replicate] at h1
        split at h1 <;> cases h1
        cases h2
    · cases o with
      | rt d' =>
        cases e2
        exact fun v G' H' b r' => kk v G' H' ⟨b.gg, b.hh, b.gh, b.fr⟩ r'
      | nx ρ =>
        cases e2
        exact fun σ' G' H' st' => kk .non G' H' ⟨st'.bs.gg, st'.bs.hh, st'.bs.gh, st'.bs.fr⟩ (rep_non.mpr rfl)
      | bk ρ => cases e2
      | ct ρ => cases e2
end RD

set_option Elab.async false
set_option linter.all false
set_option maxRecDepth 100000
namespace RD
open PySem PySem.Spec PyProof.Rows L2 SeqAt

/-! # equality -/
mutual
def eqD : D → D → Bool
  | .non, .non => true
  | .bl a, .bl b => a == b
  | .bl a, .int i => (if a then 1 else 0) == i
  | .int i, .bl a => i == (if a then 1 else 0)
  | .int i, .int j => i == j
  | .str x, .str y => x == y
  | .tup xs, .tup ys => eqL xs ys
  | .lst xs, .lst ys => eqL xs ys
  | _, _ => false
def eqL : List D → List D → Bool
  | [], [] => true
  | x :: xs, y :: ys => eqD x y && eqL xs ys
  | _, _ => false
end
mutual
def dep : D → Nat
  | .tup xs => depL xs + 1
  | .lst xs => depL xs + 1
  | _ => 0
def depL : List D → Nat
  | [] => 0
  | x :: xs => max (dep x) (depL xs)
end
mutual
theorem eqD_refl : ∀ d : D, eqD d d = true
  | .non => by simp [eqD]
  | .bl _ => by simp [eqD]
  | .int _ => by simp [eqD]
  | .str _ => by simp [eqD]
  | .tup xs => by simp only [eqD]; exact eqL_refl xs
  | .lst xs => by simp only [eqD]; exact eqL_refl xs
theorem eqL_refl : ∀ d : List D, eqL d d = true
  | [] => by simp [eqL]
  | x :: xs => by simp only [eqL, eqD_refl x, eqL_refl xs]; rfl
end
theorem depL_get : ∀ {xs : List D} {i : Nat} {d : D}, xs[i]? = some d → dep d ≤ depL xs
  | [], _, _, h => by simp at h
  | x :: xs, 0, d, h => by simp at h; subst h; simp only [depL]; omega
  | x :: xs, i + 1, d, h => by
    have := depL_get (xs := xs) (i := i) (by simpa using h)
    simp only [depL]; omega
/-- the items' answers by place -/
def eqI (xs ys : List D) (j : Nat) : Bool := match xs[j]?, ys[j]? with
  | some x, some y => eqD x y
  | _, _ => true
theorem eqL_all : ∀ xs ys : List D, ((List.range (min xs.length ys.length)).all (eqI xs ys) && xs.length == ys.length) = eqL xs ys
  | [], [] => by simp [eqL]
  | [], y :: ys => by simp [eqL]
  | x :: xs, [] => by simp [eqL]
  | x :: xs, y :: ys => by
    have ih := eqL_all xs ys
    have e1 : min (x :: xs).length (y :: ys).length = min xs.length ys.length + 1 := by simp only [List.length_cons]; omega
    have e2 : ((List.range (min xs.length ys.length)).map Nat.succ).all (eqI (x :: xs) (y :: ys)) = (List.range (min xs.length ys.length)).all (eqI xs ys) := by
      rw [List.all_map]
      congr 1
    rw [e1, List.range_succ_eq_map, List.all_cons, e2]
    have e3 : eqI (x :: xs) (y :: ys) 0 = eqD x y := by simp [eqI]
    have e4 : ((x :: xs).length == (y :: ys).length) = (xs.length == ys.length) := by
      simp only [List.length_cons]
      rw [Bool.eq_iff_iff]; simp
    rw [e3, e4, Bool.and_assoc, ih]
    simp only [eqL]
theorem eqL_all' (xs ys : List D) (h : xs.length = ys.length) : (List.range xs.length).all (eqI xs ys) = eqL xs ys := by
  rw [← eqL_all xs ys, h, Nat.min_self]
  simp
theorem eqL_len : ∀ xs ys : List D, xs.length ≠ ys.length → eqL xs ys = false
  | [], [], h => absurd rfl h
  | [], y :: ys, h => by simp [eqL]
  | x :: xs, [], h => by simp [eqL]
  | x :: xs, y :: ys, h => by
    simp only [eqL, eqL_len xs ys (fun z => h (by simp [z])), Bool.and_false]

section
variable {X : Cx} {pins : List (Addr × Obj)} {σ : L2.St} {G H : Hp} {s : Shared}
theorem not_both (I : Inv X pins σ H s) {a : Addr} {xs ys : List V} (h1 : SqT X.K H a xs) (h2 : SqL X.K H a ys) : False := by
  obtain ⟨_, _, ⟨o, e, hc, _⟩, _⟩ := I.tuple h1
  obtain ⟨_, _, ⟨o', n', e', hc', _⟩, _⟩ := I.list h2
  rw [e] at e'; cases e'
  rw [hc] at hc'
  exact absurd hc' (by decide +kernel)
mutual
theorem Rep.inj (I : Inv X pins σ H s) (sm : Same G H) : ∀ (d d' : D) (v : V), Rep X.K G d v → Rep X.K G d' v → d = d'
  | .non, d', v, h, h' => by
    have e := rep_non.mp h; subst e
    cases d' <;> simp_all [Rep]
  | .bl b, d', v, h, h' => by
    have e := rep_bl.mp h; subst e
    cases d' <;> simp_all [Rep]
  | .int b, d', v, h, h' => by
    have e := rep_int.mp h; subst e
    cases d' <;> simp_all [Rep]
  | .str b, d', v, h, h' => by
    have e := rep_str.mp h; subst e
    cases d' <;> simp_all [Rep]
  | .tup ds, d', v, h, h' => by
    obtain ⟨a, vs, rfl, q, r⟩ := rep_tup.mp h
    cases d' with
    | tup ds' =>
      obtain ⟨a', vs', e, q', r'⟩ := rep_tup.mp h'
      cases e
      have e2 := I.tuple_inj (same_tup sm q) (same_tup sm q')
      subst e2
      rw [Reps.inj I sm ds ds' vs r r']
    | lst ds' =>
      obtain ⟨a', vs', e, q', r'⟩ := rep_lst.mp h'
      cases e
      exact (not_both I (same_tup sm q) (sm.seq q')).elim
    | _ => simp [Rep] at h'
  | .lst ds, d', v, h, h' => by
    obtain ⟨a, vs, rfl, q, r⟩ := rep_lst.mp h
    cases d' with
    | lst ds' =>
      obtain ⟨a', vs', e, q', r'⟩ := rep_lst.mp h'
      cases e
      have e2 := I.list_inj (sm.seq q) (sm.seq q')
      subst e2
      rw [Reps.inj I sm ds ds' vs r r']
    | tup ds' =>
      obtain ⟨a', vs', e, q', r'⟩ := rep_tup.mp h'
      cases e
      exact (not_both I (same_tup sm q') (sm.seq q)).elim
    | _ => simp [Rep] at h'
theorem Reps.inj (I : Inv X pins σ H s) (sm : Same G H) : ∀ (d d' : List D) (v : List V), Reps X.K G d v → Reps X.K G d' v → d = d'
  | [], d', v, h, h' => by
    have e := reps_nil.mp h; subst e
    cases d' with
    | nil => rfl
    | cons _ _ => obtain ⟨_, _, e, _⟩ := reps_cons.mp h'; cases e
  | d :: ds, d', v, h, h' => by
    obtain ⟨x, r, rfl, a, b⟩ := reps_cons.mp h
    cases d' with
    | nil => cases reps_nil.mp h'
    | cons d1 ds1 =>
      obtain ⟨x', r', e, a', b'⟩ := reps_cons.mp h'
      cases e
      rw [Rep.inj I sm d d1 x a a', Reps.inj I sm ds ds1 r b b']
end
theorem vals_get {xs : List V} {us : List Value} {i : Nat} {u : Value} (r : Vals xs us) (e : us[i]? = some u) : ∃ x, xs[i]? = some x ∧ RelV x u := by
  have hl : i < xs.length := by rw [r.length]; exact (List.getElem?_eq_some_iff.mp e).1
  obtain ⟨u', e1, q⟩ := r.get (i := i) (x := xs[i]) (by simp [hl])
  rw [e] at e1; cases e1
  exact ⟨xs[i], by simp [hl], q⟩

/-- two items at a place -/
theorem items_at {xs ys : List D} {vs ws : List V} {its its2 : List Value} (r1 : Reps X.K G xs vs) (q1 : Vals vs its) (r2 : Reps X.K G ys ws) (q2 : Vals ws its2) {j : Nat} (h1 : j < its.toArray.size) (h2 : j < its2.toArray.size) :
    ∃ x y v w, xs[j]? = some x ∧ ys[j]? = some y ∧ Rep X.K G x v ∧ Rep X.K G y w ∧ RelV v its.toArray[j] ∧ RelV w its2.toArray[j] := by
  obtain ⟨v, e1, p1⟩ := vals_get (i := j) (u := its.toArray[j]) q1 (by simp at h1 ⊢)
  obtain ⟨w, e2, p2⟩ := vals_get (i := j) (u := its2.toArray[j]) q2 (by simp at h2 ⊢)
  obtain ⟨x, e3, p3⟩ := r1.got e1
  obtain ⟨y, e4, p4⟩ := r2.got e2
  exact ⟨x, y, v, w, e3, e4, p3, p4, p1, p2⟩

theorem in1_units (A : Around) : A.in1.units = A.units + 1 := rfl

/-- both forms at once, by a bound on the depth -/
theorem eq_all (I : Inv X pins σ H s) (sm : Same G H) : ∀ (n : Nat) (A : Around) (x y : D) (v w : V) (u1 u2 : Value), min (dep x) (dep y) ≤ n → A.units + n < cLine → RepR X.K G H x v → RepR X.K G H y w → RelV v u1 → RelV w u2 →
    RcAt A s u1 u2 (eqD x y) ∧ RcNeAt A s u1 u2 (!eqD x y) ∧ (Rep X.K G x v → Rep X.K G y w → EqAt A s u1 u2 (eqD x y)) := by
  intro n
  induction n with
  | zero => ?_
  | succ n ih => ?_
  all_goals
    intro A x y v w u1 u2 hd hu rx ry q1 q2
    have hu0 : A.units < cLine := by omega
    cases x with
    | non =>
      rw [rx.non] at q1; cases q1
      cases y with
      | non => rw [ry.non] at q2; cases q2; exact ⟨by simpa [eqD] using RcAt.none_none, by simpa [eqD] using RcNeAt.none_none, fun _ _ => by simpa [eqD] using EqAt.same _⟩
      | bl b => rw [ry.bl] at q2; cases q2; exact ⟨by simpa [eqD] using RcAt.none_bool b, by simpa [eqD] using RcNeAt.none_bool b, fun _ _ => by simpa [eqD] using EqAt.none_bool b⟩
      | int b => rw [ry.int] at q2; obtain ⟨t, rfl⟩ := q2; exact ⟨by simpa [eqD] using RcAt.none_int b t, by simpa [eqD] using RcNeAt.none_int b t, fun _ _ => by simpa [eqD] using EqAt.none_int b t⟩
      | str b => rw [ry.str] at q2; obtain ⟨t, rfl⟩ := q2; exact ⟨by simpa [eqD] using RcAt.none_str b t, by simpa [eqD] using RcNeAt.none_str b t, fun _ _ => by simpa [eqD] using EqAt.none_str b t⟩
      | tup ys => obtain ⟨a, vs, rfl, q, r⟩ := ry.tup sm; cases q2; obtain ⟨its, _, p, _⟩ := I.tuple q; exact ⟨by simpa [eqD] using RcAt.none_tuple p hu0, by simpa [eqD] using RcNeAt.none_tuple p hu0, fun _ _ => by simpa [eqD] using EqAt.none_tuple p hu0⟩
      | lst ys => obtain ⟨a, vs, rfl, q, r⟩ := ry.list sm; cases q2; obtain ⟨its, _, p, _⟩ := I.list q; exact ⟨by simpa [eqD] using RcAt.none_list p.isList hu0, by simpa [eqD] using RcNeAt.none_list p.isList hu0, fun _ _ => by simpa [eqD] using EqAt.none_list p.isList hu0⟩
    | bl c =>
      rw [rx.bl] at q1; cases q1
      cases y with
      | non => rw [ry.non] at q2; cases q2; exact ⟨by simpa [eqD] using RcAt.bool_none c, by simpa [eqD] using RcNeAt.bool_none c, fun _ _ => by simpa [eqD] using EqAt.bool_none c⟩
      | bl b => rw [ry.bl] at q2; cases q2; exact ⟨by simpa [eqD] using RcAt.bool_bool c b, by simpa [eqD] using RcNeAt.bool_bool c b, fun _ _ => by simpa [eqD] using EqAt.bool_bool c b⟩
      | int b => rw [ry.int] at q2; obtain ⟨t, rfl⟩ := q2; exact ⟨by simpa only [eqD] using RcAt.bool_int c b t, by simpa only [eqD] using RcNeAt.bool_int c b t, fun _ _ => by simpa only [eqD] using EqAt.bool_int c b t⟩
      | str b => rw [ry.str] at q2; obtain ⟨t, rfl⟩ := q2; exact ⟨by simpa [eqD] using RcAt.bool_str c b t, by simpa [eqD] using RcNeAt.bool_str c b t, fun _ _ => by simpa [eqD] using EqAt.bool_str c b t⟩
      | tup ys => obtain ⟨a, vs, rfl, q, r⟩ := ry.tup sm; cases q2; obtain ⟨its, _, p, _⟩ := I.tuple q; exact ⟨by simpa [eqD] using RcAt.bool_tuple c p hu0, by simpa [eqD] using RcNeAt.bool_tuple c p hu0, fun _ _ => by simpa [eqD] using EqAt.bool_tuple c p hu0⟩
      | lst ys => obtain ⟨a, vs, rfl, q, r⟩ := ry.list sm; cases q2; obtain ⟨its, _, p, _⟩ := I.list q; exact ⟨by simpa [eqD] using RcAt.bool_list c p.isList hu0, by simpa [eqD] using RcNeAt.bool_list c p.isList hu0, fun _ _ => by simpa [eqD] using EqAt.bool_list c p.isList hu0⟩
    | int c =>
      rw [rx.int] at q1; obtain ⟨t1, rfl⟩ := q1
      cases y with
      | non => rw [ry.non] at q2; cases q2; exact ⟨by simpa [eqD] using RcAt.int_none c t1, by simpa [eqD] using RcNeAt.int_none c t1, fun _ _ => by simpa [eqD] using EqAt.int_none c t1⟩
      | bl b => rw [ry.bl] at q2; cases q2; exact ⟨by simpa only [eqD] using RcAt.int_bool c t1 b, by simpa only [eqD] using RcNeAt.int_bool c t1 b, fun _ _ => by simpa only [eqD] using EqAt.int_bool c t1 b⟩
      | int b => rw [ry.int] at q2; obtain ⟨t, rfl⟩ := q2; exact ⟨by simpa only [eqD] using RcAt.int_int c t1 b t, by simpa only [eqD] using RcNeAt.int_int c t1 b t, fun _ _ => by simpa only [eqD] using EqAt.int_int c t1 b t⟩
      | str b => rw [ry.str] at q2; obtain ⟨t, rfl⟩ := q2; exact ⟨by simpa [eqD] using RcAt.int_str c t1 b t, by simpa [eqD] using RcNeAt.int_str c t1 b t, fun _ _ => by simpa [eqD] using EqAt.int_str c t1 b t⟩
      | tup ys => obtain ⟨a, vs, rfl, q, r⟩ := ry.tup sm; cases q2; obtain ⟨its, _, p, _⟩ := I.tuple q; exact ⟨by simpa [eqD] using RcAt.int_tuple c t1 p hu0, by simpa [eqD] using RcNeAt.int_tuple c t1 p hu0, fun _ _ => by simpa [eqD] using EqAt.int_tuple c t1 p hu0⟩
      | lst ys => obtain ⟨a, vs, rfl, q, r⟩ := ry.list sm; cases q2; obtain ⟨its, _, p, _⟩ := I.list q; exact ⟨by simpa [eqD] using RcAt.int_list c t1 p.isList hu0, by simpa [eqD] using RcNeAt.int_list c t1 p.isList hu0, fun _ _ => by simpa [eqD] using EqAt.int_list c t1 p.isList hu0⟩
    | str c =>
      rw [rx.str] at q1; obtain ⟨t1, rfl⟩ := q1
      cases y with
      | non => rw [ry.non] at q2; cases q2; exact ⟨by simpa [eqD] using RcAt.str_none c t1, by simpa [eqD] using RcNeAt.str_none c t1, fun _ _ => by simpa [eqD] using EqAt.str_none c t1⟩
      | bl b => rw [ry.bl] at q2; cases q2; exact ⟨by simpa [eqD] using RcAt.str_bool c t1 b, by simpa [eqD] using RcNeAt.str_bool c t1 b, fun _ _ => by simpa [eqD] using EqAt.str_bool c t1 b⟩
      | int b => rw [ry.int] at q2; obtain ⟨t, rfl⟩ := q2; exact ⟨by simpa [eqD] using RcAt.str_int c t1 b t, by simpa [eqD] using RcNeAt.str_int c t1 b t, fun _ _ => by simpa [eqD] using EqAt.str_int c t1 b t⟩
      | str b => rw [ry.str] at q2; obtain ⟨t, rfl⟩ := q2; exact ⟨by simpa only [eqD] using RcAt.str_str c t1 b t, by simpa only [eqD] using RcNeAt.str_str c t1 b t, fun _ _ => by simpa only [eqD] using EqAt.str_str c t1 b t⟩
      | tup ys => obtain ⟨a, vs, rfl, q, r⟩ := ry.tup sm; cases q2; obtain ⟨its, _, p, _⟩ := I.tuple q; exact ⟨by simpa [eqD] using RcAt.str_tuple c t1 p hu0, by simpa [eqD] using RcNeAt.str_tuple c t1 p hu0, fun _ _ => by simpa [eqD] using EqAt.str_tuple c t1 p hu0⟩
      | lst ys => obtain ⟨a, vs, rfl, q, r⟩ := ry.list sm; cases q2; obtain ⟨its, _, p, _⟩ := I.list q; exact ⟨by simpa [eqD] using RcAt.str_list c t1 p.isList hu0, by simpa [eqD] using RcNeAt.str_list c t1 p.isList hu0, fun _ _ => by simpa [eqD] using EqAt.str_list c t1 p.isList hu0⟩
    | tup xs =>
      obtain ⟨a1, vs1, rfl, qq1, rr1⟩ := rx.tup sm; cases q1; obtain ⟨its1, vv1, p1, _⟩ := I.tuple qq1
      cases y with
      | non => rw [ry.non] at q2; cases q2; exact ⟨by simpa [eqD] using RcAt.tuple_none p1 hu0, by simpa [eqD] using RcNeAt.tuple_none p1 hu0, fun _ _ => by simpa [eqD] using EqAt.tuple_none p1 hu0⟩
      | bl b => rw [ry.bl] at q2; cases q2; exact ⟨by simpa [eqD] using RcAt.tuple_bool b p1 hu0, by simpa [eqD] using RcNeAt.tuple_bool b p1 hu0, fun _ _ => by simpa [eqD] using EqAt.tuple_bool b p1 hu0⟩
      | int b => rw [ry.int] at q2; obtain ⟨t, rfl⟩ := q2; exact ⟨by simpa [eqD] using RcAt.tuple_int b t p1 hu0, by simpa [eqD] using RcNeAt.tuple_int b t p1 hu0, fun _ _ => by simpa [eqD] using EqAt.tuple_int b t p1 hu0⟩
      | str b => rw [ry.str] at q2; obtain ⟨t, rfl⟩ := q2; exact ⟨by simpa [eqD] using RcAt.tuple_str b t p1 hu0, by simpa [eqD] using RcNeAt.tuple_str b t p1 hu0, fun _ _ => by simpa [eqD] using EqAt.tuple_str b t p1 hu0⟩
      | lst ys => obtain ⟨a, vs, rfl, q, r⟩ := ry.list sm; cases q2; obtain ⟨its, _, p, _⟩ := I.list q; exact ⟨by simpa [eqD] using RcAt.tuple_list p1 p.isList hu0, by simpa [eqD] using RcNeAt.tuple_list p1 p.isList hu0, fun _ _ => by simpa [eqD] using EqAt.tuple_list p1 p.isList hu0⟩
      | tup ys =>
        first
        | (exfalso; simp only [dep] at hd; omega)
        | (obtain ⟨a2, vs2, rfl, qq2, rr2⟩ := ry.tup sm; cases q2; obtain ⟨its2, vv2, p2, _⟩ := I.tuple qq2
           have he : ∀ j (h1 : j < its1.toArray.size) (h2 : j < its2.toArray.size), EqAt A.in1 s its1.toArray[j] its2.toArray[j] (eqI xs ys j) := fun j h1 h2 => by
             obtain ⟨x, y, v, w, e1, e2, r1, r2, z1, z2⟩ := items_at rr1 vv1 rr2 vv2 h1 h2
             have d1 := depL_get e1
             have d2 := depL_get e2
             have := (ih A.in1 x y v w _ _ (by simp only [dep] at hd; omega) (by rw [in1_units]; omega) (.fr r1) (.fr r2) z1 z2).2.2 r1 r2
             simpa only [eqI, e1, e2] using this
           have el : ((List.range (min its1.toArray.size its2.toArray.size)).all (eqI xs ys) && its1.toArray.size == its2.toArray.size) = eqD (.tup xs) (.tup ys) := by
             have l1 := rr1.length; have l2 := rr2.length; have l3 := vv1.length; have l4 := vv2.length
             rw [List.size_toArray, List.size_toArray, ← l3, ← l4, ← l1, ← l2]
             simp only [eqD]; exact eqL_all xs ys
           have e1 : RcAt A s (.ref a1) (.ref a2) (eqD (.tup xs) (.tup ys)) := by rw [← el]; exact RcAt.tuples p1 p2 hu0 he
           have e2 : RcNeAt A s (.ref a1) (.ref a2) (!eqD (.tup xs) (.tup ys)) := by rw [← el]; exact RcNeAt.tuples p1 p2 hu0 he
           refine ⟨e1, e2, fun h1 h2 => ?_⟩
           by_cases z : a1 = a2
           · subst z
             have := Rep.inj I sm _ _ _ h1 h2
             rw [← this, eqD_refl]
             exact EqAt.same _
           · exact EqAt.of_refs z e1)
    | lst xs =>
      obtain ⟨a1, vs1, rfl, qq1, rr1⟩ := rx.list sm; cases q1; obtain ⟨its1, vv1, p1, _⟩ := I.list qq1
      cases y with
      | non => rw [ry.non] at q2; cases q2; exact ⟨by simpa [eqD] using RcAt.list_none p1.isList hu0, by simpa [eqD] using RcNeAt.list_none p1.isList hu0, fun _ _ => by simpa [eqD] using EqAt.list_none p1.isList hu0⟩
      | bl b => rw [ry.bl] at q2; cases q2; exact ⟨by simpa [eqD] using RcAt.list_bool b p1.isList hu0, by simpa [eqD] using RcNeAt.list_bool b p1.isList hu0, fun _ _ => by simpa [eqD] using EqAt.list_bool b p1.isList hu0⟩
      | int b => rw [ry.int] at q2; obtain ⟨t, rfl⟩ := q2; exact ⟨by simpa [eqD] using RcAt.list_int b t p1.isList hu0, by simpa [eqD] using RcNeAt.list_int b t p1.isList hu0, fun _ _ => by simpa [eqD] using EqAt.list_int b t p1.isList hu0⟩
      | str b => rw [ry.str] at q2; obtain ⟨t, rfl⟩ := q2; exact ⟨by simpa [eqD] using RcAt.list_str b t p1.isList hu0, by simpa [eqD] using RcNeAt.list_str b t p1.isList hu0, fun _ _ => by simpa [eqD] using EqAt.list_str b t p1.isList hu0⟩
      | tup ys => obtain ⟨a, vs, rfl, q, r⟩ := ry.tup sm; cases q2; obtain ⟨its, _, p, _⟩ := I.tuple q; exact ⟨by simpa [eqD] using RcAt.list_tuple p1.isList p hu0, by simpa [eqD] using RcNeAt.list_tuple p1.isList p hu0, fun _ _ => by simpa [eqD] using EqAt.list_tuple p1.isList p hu0⟩
      | lst ys =>
        first
        | (exfalso; simp only [dep] at hd; omega)
        | (obtain ⟨a2, vs2, rfl, qq2, rr2⟩ := ry.list sm; cases q2; obtain ⟨its2, vv2, p2, _⟩ := I.list qq2
           have l1 := rr1.length; have l2 := rr2.length; have l3 := vv1.length; have l4 := vv2.length
           have he : ∀ j (h1 : j < its1.toArray.size) (h2 : j < its2.toArray.size), EqAt A.in1 s its1.toArray[j] its2.toArray[j] (eqI xs ys j) := fun j h1 h2 => by
             obtain ⟨x, y, v, w, e1, e2, r1, r2, z1, z2⟩ := items_at rr1 vv1 rr2 vv2 h1 h2
             have d1 := depL_get e1
             have d2 := depL_get e2
             have := (ih A.in1 x y v w _ _ (by simp only [dep] at hd; omega) (by rw [in1_units]; omega) (.fr r1) (.fr r2) z1 z2).2.2 r1 r2
             simpa only [eqI, e1, e2] using this
           have e12 : RcAt A s (.ref a1) (.ref a2) (eqD (.lst xs) (.lst ys)) ∧ RcNeAt A s (.ref a1) (.ref a2) (!eqD (.lst xs) (.lst ys)) := by
             by_cases hz : its1.length = its2.length
             · have hsz : its1.toArray.size = its2.toArray.size := by rw [List.size_toArray, List.size_toArray]; exact hz
               have el : (List.range its1.toArray.size).all (eqI xs ys) = eqD (.lst xs) (.lst ys) := by
                 rw [List.size_toArray, ← l3, ← l1]
                 simp only [eqD]; exact eqL_all' xs ys (by omega)
               rw [← el]
               exact ⟨RcAt.lists p1.isList p2.isList hsz hu0 he, RcNeAt.lists p1.isList p2.isList hsz hu0 he⟩
             · have hsz : (its1.toArray.size != its2.toArray.size) = true := by rw [List.size_toArray, List.size_toArray]; simpa using hz
               have el : eqD (.lst xs) (.lst ys) = false := by simp only [eqD]; exact eqL_len xs ys (by omega)
               rw [el]
               exact ⟨RcAt.lists_lengths p1.isList p2.isList hsz hu0, RcNeAt.lists_lengths p1.isList p2.isList hsz hu0⟩
           refine ⟨e12.1, e12.2, fun h1 h2 => ?_⟩
           by_cases z : a1 = a2
           · subst z
             have := Rep.inj I sm _ _ _ h1 h2
             rw [← this, eqD_refl]
             exact EqAt.same _
           · exact EqAt.of_refs z e12.1)
end
def eqO (x y : D) : Option D := if min (dep x) (dep y) ≤ 20 then some (.bl (eqD x y)) else none
def neO (x y : D) : Option D := if min (dep x) (dep y) ≤ 20 then some (.bl (!eqD x y)) else none
section
variable {X : Cx}
theorem op_eqD (hu : X.A.units + 30 < cLine) : OpR X (compareOp .Eq) (rD X.K eqO) := by
  intro pins s σ H x y v u Q I rx ry ⟨G, dx, dy, d, sm, r1, r2, e, k⟩
  unfold eqO at e
  split at e
  · rename_i hd
    cases e
    exact (eq_all I sm 20 X.A dx dy x y v u hd (by omega) r1 r2 rx ry).1 _ _ _ _ (fin_bl I (k _ G H (Step.refl sm) (rep_bl.mpr rfl)) rfl)
  · cases e
theorem op_neD (hu : X.A.units + 30 < cLine) : OpR X (compareOp .NotEq) (rD X.K neO) := by
  intro pins s σ H x y v u Q I rx ry ⟨G, dx, dy, d, sm, r1, r2, e, k⟩
  unfold neO at e
  split at e
  · rename_i hd
    cases e
    exact (eq_all I sm 20 X.A dx dy x y v u hd (by omega) r1 r2 rx ry).2.1 _ _ _ _ (fin_bl I (k _ G H (Step.refl sm) (rep_bl.mpr rfl)) rfl)
  · cases e

/-! # in -/
open Classical in
open Classical in
variable {a b : Expr} {f g : Rho → Option D} {pos : Pos}
/-! # order -/
def ltO : D → D → Option D
  | .int i, .int j => some (.bl (decide (i < j)))
  | .str i, .str j => some (.bl (decide (i.cps.toList < j.cps.toList)))
  | _, _ => none
def leO : D → D → Option D
  | .int i, .int j => some (.bl (decide (i ≤ j)))
  | .str i, .str j => some (.bl (!decide (j.cps.toList < i.cps.toList)))
  | _, _ => none
def gtO : D → D → Option D
  | .int i, .int j => some (.bl (decide (j < i)))
  | _, _ => none
def geO : D → D → Option D
  | .int i, .int j => some (.bl (decide (j ≤ i)))
  | _, _ => none
theorem op_ltD : OpR X (compareOp .Lt) (rD X.K ltO) := by
  intro pins s σ H x y v u Q I rx ry ⟨G, dx, dy, d, sm, r1, r2, e, k⟩
  cases dx with
  | int i => cases dy with
    | int j => cases e; rw [r1.int] at rx; rw [r2.int] at ry; obtain ⟨t, rfl⟩ := rx; obtain ⟨t', rfl⟩ := ry; exact lt_int (fin_bl I (k _ G H (Step.refl sm) (rep_bl.mpr rfl)) rfl)
    | _ => cases e
  | str i => cases dy with
    | str j => cases e; rw [r1.str] at rx; rw [r2.str] at ry; obtain ⟨t, rfl⟩ := rx; obtain ⟨t', rfl⟩ := ry; exact lt_str (fin_bl I (k _ G H (Step.refl sm) (rep_bl.mpr rfl)) rfl)
    | _ => cases e
  | _ => cases e
theorem op_leD : OpR X (compareOp .LtE) (rD X.K leO) := by
  intro pins s σ H x y v u Q I rx ry ⟨G, dx, dy, d, sm, r1, r2, e, k⟩
  cases dx with
  | int i => cases dy with
    | int j => cases e; rw [r1.int] at rx; rw [r2.int] at ry; obtain ⟨t, rfl⟩ := rx; obtain ⟨t', rfl⟩ := ry; exact le_int (fin_bl I (k _ G H (Step.refl sm) (rep_bl.mpr rfl)) rfl)
    | _ => cases e
  | str i => cases dy with
    | str j => cases e; rw [r1.str] at rx; rw [r2.str] at ry; obtain ⟨t, rfl⟩ := rx; obtain ⟨t', rfl⟩ := ry; exact PySem.P.le_str (fin_bl I (k _ G H (Step.refl sm) (rep_bl.mpr rfl)) rfl)
    | _ => cases e
  | _ => cases e
theorem op_gtD : OpR X (compareOp .Gt) (rD X.K gtO) := by
  intro pins s σ H x y v u Q I rx ry ⟨G, dx, dy, d, sm, r1, r2, e, k⟩
  cases dx with
  | int i => cases dy with
    | int j => cases e; rw [r1.int] at rx; rw [r2.int] at ry; obtain ⟨t, rfl⟩ := rx; obtain ⟨t', rfl⟩ := ry; exact gt_int (fin_bl I (k _ G H (Step.refl sm) (rep_bl.mpr rfl)) rfl)
    | _ => cases e
  | _ => cases e
/-! # is None, is True, is False -/
def isO (x y : D) : Option D := match y with
  | .non => some (.bl (match x with | .non => true | _ => false))
  | .bl b => some (.bl (match x with | .bl c => c == b | _ => false))
  | _ => none
def isnO (x y : D) : Option D := match y with
  | .non => some (.bl (match x with | .non => false | _ => true))
  | .bl b => some (.bl (match x with | .bl c => !(c == b) | _ => true))
  | _ => none
theorem op_isD : OpR X (compareOp .Is) (rD X.K isO) := by
  intro pins s σ H x y v u Q I rx ry ⟨G, dx, dy, d, sm, r1, r2, e, k⟩
  have fin : ∀ {c c' : Bool}, d = .bl c → c = c' → EP X pins σ Q (.bool c') s := fun {c c'} e1 e2 => by subst e2; subst e1; exact (fin_bl I (k _ G H (Step.refl sm) (rep_bl.mpr rfl)) rfl)
  cases dy with
  | non =>
    rw [r2.non] at ry; cases ry
    refine is_none_gen ?_
    cases dx with
    | non => rw [r1.non] at rx; cases rx; cases e; exact fin rfl rfl
    | bl _ => rw [r1.bl] at rx; cases rx; cases e; exact fin rfl rfl
    | int _ => rw [r1.int] at rx; obtain ⟨t, rfl⟩ := rx; cases e; exact fin rfl rfl
    | str _ => rw [r1.str] at rx; obtain ⟨t, rfl⟩ := rx; cases e; exact fin rfl rfl
    | tup _ => obtain ⟨a, vs, rfl, _⟩ := r1.tup sm; cases rx; cases e; exact fin rfl rfl
    | lst _ => obtain ⟨a, vs, rfl, _⟩ := r1.list sm; cases rx; cases e; exact fin rfl rfl
  | bl b =>
    rw [r2.bl] at ry; cases ry
    cases dx with
    | non => rw [r1.non] at rx; cases rx; cases e; exact wpAny_is_plain rfl (fin rfl rfl)
    | bl c => rw [r1.bl] at rx; cases rx; cases e; exact wpAny_is_plain rfl (fin rfl (by cases b <;> cases c <;> rfl))
    | int _ => rw [r1.int] at rx; obtain ⟨t, rfl⟩ := rx; cases e; exact wpAny_is_plain rfl (fin rfl rfl)
    | str _ => rw [r1.str] at rx; obtain ⟨t, rfl⟩ := rx; cases e; exact wpAny_is_plain rfl (fin rfl rfl)
    | tup _ => obtain ⟨a, vs, rfl, _⟩ := r1.tup sm; cases rx; cases e; exact wpAny_is_plain rfl (fin rfl rfl)
    | lst _ => obtain ⟨a, vs, rfl, _⟩ := r1.list sm; cases rx; cases e; exact wpAny_is_plain rfl (fin rfl rfl)
  | _ => cases e
theorem op_isnD : OpR X (compareOp .IsNot) (rD X.K isnO) := by
  intro pins s σ H x y v u Q I rx ry ⟨G, dx, dy, d, sm, r1, r2, e, k⟩
  have fin : ∀ {c c' : Bool}, d = .bl c → c = c' → EP X pins σ Q (.bool c') s := fun {c c'} e1 e2 => by subst e2; subst e1; exact (fin_bl I (k _ G H (Step.refl sm) (rep_bl.mpr rfl)) rfl)
  cases dy with
  | non =>
    rw [r2.non] at ry; cases ry
    refine isnot_none_gen ?_
    cases dx with
    | non => rw [r1.non] at rx; cases rx; cases e; exact fin rfl rfl
    | bl _ => rw [r1.bl] at rx; cases rx; cases e; exact fin rfl rfl
    | int _ => rw [r1.int] at rx; obtain ⟨t, rfl⟩ := rx; cases e; exact fin rfl rfl
    | str _ => rw [r1.str] at rx; obtain ⟨t, rfl⟩ := rx; cases e; exact fin rfl rfl
    | tup _ => obtain ⟨a, vs, rfl, _⟩ := r1.tup sm; cases rx; cases e; exact fin rfl rfl
    | lst _ => obtain ⟨a, vs, rfl, _⟩ := r1.list sm; cases rx; cases e; exact fin rfl rfl
  | bl b =>
    rw [r2.bl] at ry; cases ry
    cases dx with
    | non => rw [r1.non] at rx; cases rx; cases e; exact wpAny_isNot_plain rfl (fin rfl rfl)
    | bl c => rw [r1.bl] at rx; cases rx; cases e; exact wpAny_isNot_plain rfl (fin rfl (by cases b <;> cases c <;> rfl))
    | int _ => rw [r1.int] at rx; obtain ⟨t, rfl⟩ := rx; cases e; exact wpAny_isNot_plain rfl (fin rfl rfl)
    | str _ => rw [r1.str] at rx; obtain ⟨t, rfl⟩ := rx; cases e; exact wpAny_isNot_plain rfl (fin rfl rfl)
    | tup _ => obtain ⟨a, vs, rfl, _⟩ := r1.tup sm; cases rx; cases e; exact wpAny_isNot_plain rfl (fin rfl rfl)
    | lst _ => obtain ⟨a, vs, rfl, _⟩ := r1.list sm; cases rx; cases e; exact wpAny_isNot_plain rfl (fin rfl rfl)
  | _ => cases e
end
end RD

set_option Elab.async false
set_option linter.all false
set_option maxRecDepth 100000
namespace RD
open PySem PySem.Spec PyProof.Rows L2 SeqAt
section
variable {X : Cx} {a b : Expr} {f g : Rho → Option D} {fl : Rho → Option (List D)} {pos : Pos}

theorem lineM {n : Nat} (h : n ≤ 1000000) : n ≤ sizeLine := Nat.le_trans h (by decide)
/-! # arithmetic -/
def addO : D → D → Option D
  | .int i, .int j => some (.int (i + j))
  | .str i, .str j => if i.length + j.length ≤ 1000000 then some (.str (i ++ j)) else none
  | .tup xs, .tup ys => if xs.length + ys.length ≤ 1000000 then some (.tup (xs ++ ys)) else none
  | _, _ => none
def subO : D → D → Option D
  | .int i, .int j => some (.int (i - j))
  | _, _ => none
def mulO : D → D → Option D
  | .int i, .int j => if (-(2 ^ 64) < i ∧ i < 2 ^ 64) ∨ (-(2 ^ 64) < j ∧ j < 2 ^ 64) then some (.int (i * j)) else none
  | _, _ => none
def modO : D → D → Option D
  | .int i, .int j => if 0 < j then some (.int (i % j)) else none
  | _, _ => none
def fdivO : D → D → Option D
  | .int i, .int j => if 0 < j ∧ j < 1073741824 then some (.int (i / j)) else none
  | _, _ => none
theorem cat_nil {prog : Program} {w : World} {A : Around} {E : Value → Shared → Prop} {s : Shared} {t b : Addr} {ws : List Value} {Q : Value → Shared → Prop} (ht : IsTup s.heap t ([] : List Value).toArray) (hb : IsTup s.heap b ws.toArray) (h1 : Q (.ref b) s) :
    wpAny (model prog w) A (binaryOp .Add (.ref t) (.ref b)) Q E s := by
  obtain ⟨⟨cls, dd, data, sl⟩, ho, hc, n, hd⟩ := id ht
  obtain ⟨⟨cls2, dd2, data2, sl2⟩, ho2, hc2, n2, hd2⟩ := id hb
  simp only at hc hd hc2 hd2
  subst hc hd hc2 hd2
  exact concat_meets ⟨_, ho, rfl⟩ ⟨_, ho2, rfl⟩ noFill_tuple_add seq_tuple_add PySem.F.slot_tuple_add PySem.F.entry_tuple_add (PySem.F.args_tuple_add_2 _ _)
      (tuple_addW0 t b _ ws.toArray n n2 dd dd2 sl sl2 rfl) ⟨ho, ho2, h1⟩
theorem op_addD : OpR X (binaryOp .Add) (rD X.K addO) := by
  intro pins s σ H x y v u Q I rx ry ⟨G, dx, dy, d, sm, r1, r2, e, k⟩
  cases dx with
  | int i => cases dy with
    | int j => cases e; rw [r1.int] at rx; rw [r2.int] at ry; obtain ⟨t, rfl⟩ := rx; obtain ⟨t', rfl⟩ := ry; exact add_int ⟨.int (i + j), H, I.tok _, ⟨_, rfl⟩, k _ G H (Step.refl sm) (rep_int.mpr rfl)⟩
    | _ => cases e
  | str i => cases dy with
    | str j =>
      simp only [addO] at e
      split at e
      · rename_i hz
        cases e; rw [r1.str] at rx; rw [r2.str] at ry
        exact op_add_str pins s σ H _ _ v u Q I rx ry ⟨i, j, rfl, rfl, lineM hz, k _ G H (Step.refl sm) (rep_str.mpr rfl)⟩
      · cases e
    | _ => cases e
  | tup xs => cases dy with
    | tup ys =>
      simp only [addO] at e
      split at e
      · rename_i hz
        cases e
        obtain ⟨a1, vs1, rfl, q1, w1⟩ := r1.tup sm
        obtain ⟨a2, vs2, rfl, q2, w2⟩ := r2.tup sm
        have l1 := w1.length
        have l2 := w2.length
        cases vs1 with
        | nil =>
          cases rx; cases ry
          obtain ⟨its, vv, p1, _⟩ := I.tuple q1
          obtain ⟨its2, vv2, p2, _⟩ := I.tuple q2
          cases vv
          have hx : xs = [] := List.length_eq_zero_iff.mp l1
          subst hx
          refine cat_nil p1 p2 ⟨.ref a2, H, I, rfl, k _ G H (Step.refl sm) ?_⟩
          simpa using r2.rep (fun _ z => by cases z)
        | cons v1 vs1 =>
          refine op_catT pins s σ H _ _ v u Q I rx ry ⟨a1, a2, _, vs2, rfl, rfl, q1, q2, by simp, lineM (by omega), fun z => ?_, fun _ p hp => ?_⟩
          · subst z
            have hy : ys = [] := List.length_eq_zero_iff.mp l2
            subst hy
            refine k _ G H (Step.refl sm) ?_
            simpa using r1.rep (fun _ z => by cases z)
          · exact k _ _ _ (Step.new sm hp) (rep_tup.mpr ⟨p, _, rfl, SqT.of upd_same, Reps.mono (same_upd (sm.free hp)) _ _ (w1.append w2)⟩)
      · cases e
    | _ => cases e
  | _ => cases e
theorem op_subD : OpR X (binaryOp .Sub) (rD X.K subO) := by
  intro pins s σ H x y v u Q I rx ry ⟨G, dx, dy, d, sm, r1, r2, e, k⟩
  cases dx with
  | int i => cases dy with
    | int j => cases e; exact op_sub pins s σ H x y v u Q I rx ry ⟨i, j, r1.int, r2.int, k _ G H (Step.refl sm) (rep_int.mpr rfl)⟩
    | _ => cases e
  | _ => cases e
theorem op_mulD : OpR X (binaryOp .Mult) (rD X.K mulO) := by
  intro pins s σ H x y v u Q I rx ry ⟨G, dx, dy, d, sm, r1, r2, e, k⟩
  cases dx with
  | int i => cases dy with
    | int j =>
      simp only [mulO] at e
      split at e
      · rename_i hz; cases e; exact op_mul pins s σ H x y v u Q I rx ry ⟨i, j, r1.int, r2.int, hz, k _ G H (Step.refl sm) (rep_int.mpr rfl)⟩
      · cases e
    | _ => cases e
  | _ => cases e
theorem op_modD : OpR X (binaryOp .Mod) (rD X.K modO) := by
  intro pins s σ H x y v u Q I rx ry ⟨G, dx, dy, d, sm, r1, r2, e, k⟩
  cases dx with
  | int i => cases dy with
    | int j =>
      simp only [modO] at e
      split at e
      · rename_i hz; cases e; exact op_mod pins s σ H x y v u Q I rx ry ⟨i, j, r1.int, r2.int, hz, k _ G H (Step.refl sm) (rep_int.mpr rfl)⟩
      · cases e
    | _ => cases e
  | _ => cases e
theorem op_fdivD : OpR X (binaryOp .FloorDiv) (rD X.K fdivO) := by
  intro pins s σ H x y v u Q I rx ry ⟨G, dx, dy, d, sm, r1, r2, e, k⟩
  cases dx with
  | int i => cases dy with
    | int j =>
      simp only [fdivO] at e
      split at e
      · rename_i hz; cases e; exact op_fdiv pins s σ H x y v u Q I rx ry ⟨i, j, r1.int, r2.int, hz, k _ G H (Step.refl sm) (rep_int.mpr rfl)⟩
      · cases e
    | _ => cases e
  | _ => cases e
def negO : D → Option D
  | .int i => some (.int (-i))
  | _ => none
theorem se_neg (ha : SR X a f) : SE X (.UnaryOp .USub a pos) (b1 f negO) := weak (pe_un (r := fun x H Q => ∃ i, x = .int i ∧ Q (.int (-i)) H) un_neg ha) fun σ H Q ⟨G, ρ, d, s, er, ef, k⟩ => by
  obtain ⟨d1, e1, ef⟩ := Option.bind_eq_some_iff.mp ef
  cases d1 with
  | int i => cases ef; exact ⟨G, ρ, _, s, er, e1, fun v1 G1 H1 t1 r1 => ⟨i, r1.int, k _ G1 H1 t1 (rep_int.mpr rfl)⟩⟩
  | _ => cases ef

/-! # list + list: a new list -/
def catL (x y : D) : Option (List D) := match x, y with
  | .lst xs, .lst ys => if xs.length + ys.length ≤ 1000000 then some (xs ++ ys) else none
  | _, _ => none
def b2F (f g : Rho → Option D) (op : D → D → Option (List D)) : Rho → Option (List D) := fun ρ => (f ρ).bind fun x => (g ρ).bind fun y => op x y
def rF (K : PySem.W.Frag) (op : D → D → Option (List D)) : R2 := fun x y H Q => ∃ G dx dy xs, Same G H ∧ RepR K G H dx x ∧ RepR K G H dy y ∧ op dx dy = some xs ∧ ∀ a vs G' H', Step G H G' H' → H a = none → G' a = none → H' a = some (.lst vs) → Reps K G' xs vs → Q (.ref a) H'
theorem lift2F {K : PySem.W.Frag} {op : D → D → Option (List D)} {σ : L2.St} {H : Hp} {Q : VK} (h : tF K (b2F f g op) σ H Q) : tOp (rF K op) (tR K f) (tR K g) σ H Q := by
  obtain ⟨G, ρ, d, s, er, ef, k⟩ := h
  obtain ⟨x, e1, ef⟩ := Option.bind_eq_some_iff.mp ef
  obtain ⟨y, e2, ef⟩ := Option.bind_eq_some_iff.mp ef
  refine ⟨G, ρ, x, s, er, e1, fun v1 G1 H1 t1 r1 => ⟨G1, ρ, y, t1.s, er.step t1, e2, fun v2 G2 H2 t2 r2 => ?_⟩⟩
  exact ⟨G2, x, y, d, t2.s, r1.step t2, r2, ef, fun a vs G' H' t h1 h2 h3 r => k a vs G' H' ((t1.trans t2).trans t) ((t1.trans t2).h.free h1) h2 h3 r⟩
theorem op_catL : OpR X (binaryOp .Add) (rF X.K catL) := by
  intro pins s σ H x y v u Q I rx ry ⟨G, dx, dy, d, sm, r1, r2, e, k⟩
  cases dx with
  | lst xs => cases dy with
    | lst ys =>
      simp only [catL] at e
      split at e
      · rename_i hz
        cases e
        obtain ⟨a1, vs1, rfl, q1, w1⟩ := r1.list sm
        obtain ⟨a2, vs2, rfl, q2, w2⟩ := r2.list sm
        have l1 := w1.length
        have l2 := w2.length
        cases rx; cases ry
        obtain ⟨its, vv, ⟨o1, n1, p1, c1, d1, e1⟩, _⟩ := I.list q1
        obtain ⟨its2, vv2, ⟨o2, n2, p2, c2, d2, e2⟩, _⟩ := I.list q2
        have l3 := vv.length
        have l4 := vv2.length
        obtain ⟨cls, dd, data, sl⟩ := o1
        obtain ⟨cls2, dd2, data2, sl2⟩ := o2
        simp only at c1 d1 e1 c2 d2 e2
        subst c1 d1 e1 c2 d2 e2
        refine concat_meets ⟨_, p1, rfl⟩ ⟨_, p2, rfl⟩ noFill_list_add seq_list_add PySem.F.slot_list_add PySem.F.entry_list_add (PySem.F.args_list_add_2 _ _)
          (list_addW a1 a2 its.toArray its2.toArray n1 n2 none none sl sl2 (by rw [List.size_toArray, List.size_toArray]; exact lineM (by omega))) ⟨p1, p2, ?_⟩
        have ea : its.toArray ++ its2.toArray = (its ++ its2).toArray := by simp
        rw [ea]
        refine ⟨.ref _, _, I.lnew (t' := s.toks) (vv.append vv2) (by rw [List.length_append]; exact lineM (by omega)), rfl, ?_⟩
        exact k _ (vs1 ++ vs2) G _ (Step.newH sm I.fresh) I.fresh (sm.free I.fresh) upd_same (w1.append w2)
      · cases e
    | _ => cases e
  | _ => cases e
theorem sf_cat (ha : SR X a f) (hb : SR X b g) : SF X (.BinOp a .Add b pos) (b2F f g catL) := weak (pe_op op_catL ha hb) fun _ _ _ h => lift2F h

/-! # items -/
def ixO : D → D → Option D
  | .lst xs, .int i => atI xs i
  | .tup xs, .int i => atI xs i
  | .str z, .int i => if z.length ≤ 1000000 then (atI z.cps.toList i).map fun c => .str ⟨#[c]⟩ else none
  | _, _ => none
theorem atI_rep {K : PySem.W.Frag} {G : Hp} {xs : List D} {vs : List V} {i : Int} {d : D} (r : Reps K G xs vs) (h : atI xs i = some d) : ∃ v, atI vs i = some v ∧ Rep K G d v := by
  unfold atI at h ⊢
  rw [← r.length]
  obtain ⟨j, e1, e2⟩ := Option.bind_eq_some_iff.mp h
  rw [e1]
  exact r.get e2
theorem ix_D : IxR X (rD X.K ixO) := by
  intro value slice pins s σ H x y v u Q I rx ry ⟨G, dx, dy, d, sm, r1, r2, e, k⟩ hs
  cases dy with
  | int i =>
    have hy := r2.int
    subst hy
    cases dx with
    | lst xs =>
      obtain ⟨a1, vs1, rfl, q1, w1⟩ := r1.list sm
      obtain ⟨v', e1, e2⟩ := atI_rep w1 e
      exact ix_seq value slice pins s σ H _ _ v u Q I rx ry (.inl ⟨a1, vs1, i, v', rfl, rfl, q1, e1, k _ G H (Step.refl sm) e2⟩) hs
    | tup xs =>
      obtain ⟨a1, vs1, rfl, q1, w1⟩ := r1.tup sm
      obtain ⟨v', e1, e2⟩ := atI_rep w1 e
      exact ix_seq value slice pins s σ H _ _ v u Q I rx ry (.inr (.inl ⟨a1, vs1, i, v', rfl, rfl, q1, e1, k _ G H (Step.refl sm) e2⟩)) hs
    | str z =>
      have hx := r1.str
      subst hx
      simp only [ixO] at e
      split at e
      · rename_i hz
        obtain ⟨c, e1, rfl⟩ := Option.map_eq_some_iff.mp e
        exact ix_seq value slice pins s σ H _ _ v u Q I rx ry (.inr (.inr ⟨z, i, c, rfl, rfl, lineM hz, e1, k _ G H (Step.refl sm) (rep_str.mpr rfl)⟩)) hs
      · cases e
    | _ => cases e
  | _ => cases dx <;> cases e
theorem se_ix (ha : SR X a f) (hb : SR X b g) (hs : PlainIx b := by intro _ _; rfl) : SE X (.Subscript a b pos) (b2 f g ixO) := weak (pe_ix ix_D ha hb hs) fun _ _ _ h => lift2 h

/-! # slices -/
abbrev cutD (xs : List D) (lo hi : Option Int) : List D := (xs.drop (HT.sIx xs.length 0 lo)).take (HT.sIx xs.length xs.length hi - HT.sIx xs.length 0 lo)
theorem cut_rep {K : PySem.W.Frag} {G : Hp} {xs : List D} {vs : List V} (lo hi : Option Int) (r : Reps K G xs vs) : Reps K G (cutD xs lo hi) (cutV vs lo hi) := by
  unfold cutD cutV
  rw [r.length]
  exact (r.drop _).take _
/-- the parts: left out, or ints -/
def tOs (K : PySem.W.Frag) (f : Rho → Option (Option Int)) : TO := fun σ H Q => ∃ G ρ d, Same G H ∧ Er K G H ρ σ ∧ f ρ = some d ∧ ∀ G' H', Step G H G' H' → Q d H'
abbrev SO (X : Cx) (e : Option Expr) (f : Rho → Option (Option Int)) : Prop := PO X e (tOs X.K f)
theorem weakO {X : Cx} {e : Option Expr} {t t' : TO} (h : PO X e t) (w : ∀ σ H Q, t' σ H Q → t σ H Q) : PO X e t' := fun pins s σ H Q I q => h pins s σ H Q I (w σ H Q q)
def asI : D → Option Int
  | .int i => some i
  | _ => none
def oI (f : Rho → Option D) : Rho → Option (Option Int) := fun ρ => (f ρ).bind fun d => (asI d).map some
theorem so_none : SO X none (fun _ => some none) := weakO po_none fun σ H Q ⟨G, ρ, d, s, er, ef, k⟩ => by cases ef; exact k G H (Step.refl s)
theorem so_some (h : SE X a f) : SO X (some a) (oI f) := weakO (po_some h) fun σ H Q ⟨G, ρ, d, s, er, ef, k⟩ => by
  obtain ⟨x, e1, ef⟩ := Option.bind_eq_some_iff.mp ef
  obtain ⟨i, e2, rfl⟩ := Option.map_eq_some_iff.mp ef
  cases x with
  | int j => cases e2; exact ⟨G, ρ, _, s, er, e1, fun v1 G1 H1 t1 r1 => ⟨i, rep_int.mp r1, k G1 H1 t1⟩⟩
  | _ => cases e2
variable {lo hi : Option Expr} {ol oh : Rho → Option (Option Int)} {p2 : Pos}
def slD (x : D) (lo hi : Option Int) : Option D := match x with
  | .tup xs => some (.tup (cutD xs lo hi))
  | .str z => if z.length ≤ 1000000 then some (.str (Txt.slice z lo hi)) else none
  | _ => none
def slF (x : D) (lo hi : Option Int) : Option (List D) := match x with
  | .lst xs => some (cutD xs lo hi)
  | _ => none
def b3S {α : Type} (f : Rho → Option D) (ol oh : Rho → Option (Option Int)) (op : D → Option Int → Option Int → Option α) : Rho → Option α := fun ρ => (f ρ).bind fun x => (ol ρ).bind fun l => (oh ρ).bind fun h => op x l h
/-- the whole of a tuple is itself -/
theorem getItem_tuple_whole {prog : Program} {w : World} {A : Around} {E : Value → Shared → Prop} {s : Shared} {t sl : Addr} {items : Array Value} {vl vu : Value} {lo hi : Option Int} {Q : Value → Shared → Prop} (ht : IsTup s.heap t items) (hs : s.heap.IsSliceOf sl vl vu .none) (pl : IsPart vl lo) (pu : IsPart vu hi)
    (hw : HT.sIx items.size 0 lo = 0 ∧ HT.sIx items.size items.size hi = items.size) (h : Q (.ref t) s) : wpAny (model prog w) A (getItem (.ref t) (.ref sl)) Q E s := by
  obtain ⟨os, hos, hcs, hds⟩ := id hs
  have hTs : s.TypeIs (.ref sl) "slice" := ⟨os, hos, hcs⟩
  unfold getItem
  try with_reducible refine wpAny_holding ?_
  first | refine wpAny_bind (wpAny_pure ?_) | skip
  refine wpAny_bind (wpAny_sequenceKey ht.typeIs (by decide) ?_)
  refine wpAny_bind (wpAny_callSpecial?_slot (name := Str.ofString "__getitem__") ht.typeIs PyProof.Rows.slot_tuple_getitem
    (wpAny_call_entry PyProof.Rows.slot_tuple_getitem ht.typeIs entry_tuple_getitem ?_ (args_tuple_getitem _ _)))
  show wpAny _ _ (Builtin.Tuple.tupleItemsOf (.ref t) >>= _) _ _ s
  refine wpAny_bind (tupleItemsOf_ ht ?_)
  refine wpAny_bind (wpAny_typeOf hTs ?_)
  rw [if_pos (by decide)]
  refine wpAny_bind (HT.sliceApplied_gen hs pl pu ?_)
  have hyes : (((HT.sIx items.size 0 lo : Nat) : Int) == 0 && (1 : Int) == 1 && (HT.sIx items.size items.size hi - HT.sIx items.size 0 lo) == items.size) = true := by
    rw [hw.1, hw.2]; simp
  show wpAny _ _ (if (((HT.sIx items.size 0 lo : Nat) : Int) == 0 && (1 : Int) == 1 && (HT.sIx items.size items.size hi - HT.sIx items.size 0 lo) == items.size) = true then _ else _) _ _ s
  rw [if_pos hyes]
  unfold Builtin.Tuple.tupleIsExact
  first
    | exact wpAny_bind (wpAny_bind (wpAny_typeOf ht.typeIs (wpAny_pure (by rw [if_pos (by decide)]; exact wpAny_bind (wpAny_rule (wpAny_pure ⟨_, rfl, wpAny_pure h⟩))))))
    | exact wpAny_bind (wpAny_bind (wpAny_typeOf ht.typeIs (wpAny_pure (by rw [if_pos (by decide)]; exact wpAny_bind (wpAny_rule (wpAny_bind (wpAny_pure (wpAny_pure ⟨_, rfl, wpAny_pure h⟩))))))))
    | exact wpAny_bind (wpAny_bind (wpAny_bind (wpAny_typeOf ht.typeIs (wpAny_pure (by rw [if_pos (by decide)]; exact wpAny_bind (wpAny_rule (wpAny_pure (wpAny_pure ⟨_, rfl, wpAny_pure h⟩))))))))
def rSD (K : PySem.W.Frag) : V → Option Int → Option Int → Hp → VK → Prop := fun x lo hi H Q => ∃ G dx d, Same G H ∧ RepR K G H dx x ∧ slD dx lo hi = some d ∧ ∀ v G' H', Step G H G' H' → Rep K G' d v → Q v H'
theorem part_of {v : Value} {o : Option Int} (p : IsPart v o) : ∃ l : Option (Int × Tok), v = partValue l ∧ l.map (·.1) = o := by
  cases p with
  | none => exact ⟨none, rfl, rfl⟩
  | int i t => exact ⟨some (i, t), rfl, rfl⟩
theorem sl_D : SlR X (rSD X.K) := by
  intro pins s σ H x v vl vu lo hi sl Q I rx hs pl pu ⟨G, dx, d, sm, r1, e, k⟩
  cases dx with
  | tup xs =>
    cases e
    obtain ⟨a1, vs1, rfl, q1, w1⟩ := r1.tup sm
    by_cases hw : HT.sIx vs1.length 0 lo = 0 ∧ HT.sIx vs1.length vs1.length hi = vs1.length
    · cases rx
      obtain ⟨its, vv, ht, hz⟩ := I.tuple q1
      have hlen : its.toArray.size = vs1.length := by rw [List.size_toArray]; exact vv.length.symm
      refine ⟨"tuple", _, PyProof.Rows.slot_tuple_getitem.lookup, ht.typeIs, getItem_tuple_whole ht hs pl pu (by rw [hlen]; exact hw) ⟨.ref a1, H, I, rfl, k _ G H (Step.refl sm) ?_⟩⟩
      have e1 : cutD xs lo hi = xs := by
        unfold cutD
        rw [w1.length, hw.1, hw.2, List.drop_zero, Nat.sub_zero, ← w1.length, List.take_length]
      rw [e1]
      exact r1.rep fun _ z => by cases z
    · exact sl_tup pins s σ H _ v vl vu lo hi sl Q I rx hs pl pu ⟨a1, vs1, rfl, q1, hw, fun p hp => k _ _ _ (Step.new sm hp) (rep_tup.mpr ⟨p, _, rfl, SqT.of upd_same, Reps.mono (same_upd (sm.free hp)) _ _ (cut_rep lo hi w1)⟩)⟩
  | str z =>
    simp only [slD] at e
    split at e
    · rename_i hz
      cases e
      rw [r1.str] at rx
      obtain ⟨t, rfl⟩ := rx
      obtain ⟨l, rfl, el⟩ := part_of pl
      obtain ⟨u, rfl, eu⟩ := part_of pu
      refine ⟨"str", _, F.slot_str_getitem.lookup, typeIs_str _ _ _, wpAny_getItem_str_slice (l := l) (u := u) (st := none) hs rfl ?_⟩
      subst el eu
      refine post_val_or_str ⟨Nat.le_trans (Txt.slice_le z _ _) (lineM hz), fun t' k' => ⟨.str _, H, I.tok _, ⟨_, rfl⟩, k _ G H (Step.refl sm) (rep_str.mpr rfl)⟩⟩
    · cases e
  | _ => cases e
theorem se_slice (ha : SR X a f) (hl : SO X lo ol) (hh : SO X hi oh) : SE X (.Subscript a (.Slice lo hi none p2) pos) (b3S f ol oh slD) := weak (pe_slice sl_D ha hl hh) fun σ H Q ⟨G, ρ, d, s, er, ef, k⟩ => by
  obtain ⟨x, e1, ef⟩ := Option.bind_eq_some_iff.mp ef
  obtain ⟨l, e2, ef⟩ := Option.bind_eq_some_iff.mp ef
  obtain ⟨h, e3, ef⟩ := Option.bind_eq_some_iff.mp ef
  exact ⟨G, ρ, x, s, er, e1, fun v1 G1 H1 t1 r1 => ⟨G1, ρ, l, t1.s, er.step t1, e2, fun G2 H2 t2 => ⟨G2, ρ, h, t2.s, er.step (t1.trans t2), e3, fun G3 H3 t3 => ⟨G3, x, d, t3.s, r1.step (t2.trans t3), ef, fun v G' H' t r => k v G' H' (((t1.trans t2).trans t3).trans t) r⟩⟩⟩⟩
theorem sf_slice (ha : SR X a f) (hl : SO X lo ol) (hh : SO X hi oh) : SF X (.Subscript a (.Slice lo hi none p2) pos) (b3S f ol oh slF) := weak (pe_slice sl_list ha hl hh) fun σ H Q ⟨G, ρ, d, s, er, ef, k⟩ => by
  obtain ⟨x, e1, ef⟩ := Option.bind_eq_some_iff.mp ef
  obtain ⟨l, e2, ef⟩ := Option.bind_eq_some_iff.mp ef
  obtain ⟨h, e3, ef⟩ := Option.bind_eq_some_iff.mp ef
  cases x with
  | lst xs =>
    cases ef
    refine ⟨G, ρ, _, s, er, e1, fun v1 G1 H1 t1 r1 => ⟨G1, ρ, l, t1.s, er.step t1, e2, fun G2 H2 t2 => ⟨G2, ρ, h, t2.s, er.step (t1.trans t2), e3, fun G3 H3 t3 => ?_⟩⟩⟩
    have tt := (t1.trans t2).trans t3
    obtain ⟨a1, vs1, rfl, q1, w1⟩ := (r1.step (t2.trans t3)).list t3.s
    exact ⟨a1, vs1, rfl, q1, fun p hp => k p _ G3 _ (tt.trans (Step.newH t3.s hp)) (tt.h.free hp) (t3.s.free hp) upd_same (cut_rep l h w1)⟩
  | _ => cases ef

/-! # len, tuple, list, int -/
def lenO : D → Option D
  | .tup xs => some (.int xs.length)
  | .lst xs => some (.int xs.length)
  | .str z => if z.length ≤ 1000000 then some (.int z.length) else none
  | _ => none
theorem call_lenO : CallR X (.builtin "len") (cR X.K lenO) := by
  intro pins s σ H xs us Q I r h
  obtain ⟨G, d1, d, x, rfl, sm, r1, e, k⟩ := h
  cases d1 with
  | tup ys =>
    cases e
    obtain ⟨a, vs, rfl, q, w⟩ := r1.tup sm
    refine call_len_seq pins s σ H _ us Q I r ⟨a, vs, rfl, .inr q, ?_⟩
    rw [← w.length]
    exact k _ G H (Step.refl sm) (rep_int.mpr rfl)
  | lst ys =>
    cases e
    obtain ⟨a, vs, rfl, q, w⟩ := r1.list sm
    refine call_len_seq pins s σ H _ us Q I r ⟨a, vs, rfl, .inl q, ?_⟩
    rw [← w.length]
    exact k _ G H (Step.refl sm) (rep_int.mpr rfl)
  | str z =>
    simp only [lenO] at e
    split at e
    · rename_i hz
      cases e
      have hx := r1.str
      subst hx
      exact call_len_str pins s σ H _ us Q I r ⟨z, rfl, lineM hz, k _ G H (Step.refl sm) (rep_int.mpr rfl)⟩
    · cases e
  | _ => cases e
def tupO : D → Option D
  | .tup xs => some (.tup xs)
  | .lst xs => some (.tup xs)
  | _ => none
theorem call_tupO : CallR X (.type "tuple") (cR X.K tupO) := by
  intro pins s σ H xs us Q I r h
  obtain ⟨G, d1, d, x, rfl, sm, r1, e, k⟩ := h
  cases d1 with
  | tup ys =>
    cases e
    obtain ⟨a, vs, rfl, q, w⟩ := r1.tup sm
    exact call_tuple_of pins s σ H _ us Q I r ⟨a, vs, rfl, .inr ⟨q, k _ G H (Step.refl sm) (r1.rep fun _ z => by cases z)⟩⟩
  | lst ys =>
    cases e
    obtain ⟨a, vs, rfl, q, w⟩ := r1.list sm
    exact call_tuple_of pins s σ H _ us Q I r ⟨a, vs, rfl, .inl ⟨q, fun p hp => k _ _ _ (Step.new sm hp) (rep_tup.mpr ⟨p, _, rfl, SqT.of upd_same, Reps.mono (same_upd (sm.free hp)) _ _ w⟩)⟩⟩
  | _ => cases e
def lstO : D → Option (List D)
  | .tup xs => some xs
  | .lst xs => some xs
  | _ => none
theorem call_lstO : CallR X (.type "list") (cF X.K lstO) := by
  intro pins s σ H xs us Q I r h
  obtain ⟨G, d1, ys, x, rfl, sm, r1, e, k⟩ := h
  cases d1 with
  | tup zs =>
    cases e
    obtain ⟨a, vs, rfl, q, w⟩ := r1.tup sm
    exact call_list_of pins s σ H _ us Q I r ⟨a, vs, rfl, .inr q, fun p hp => k p vs G _ (Step.newH sm hp) hp (sm.free hp) upd_same w⟩
  | lst zs =>
    cases e
    obtain ⟨a, vs, rfl, q, w⟩ := r1.list sm
    exact call_list_of pins s σ H _ us Q I r ⟨a, vs, rfl, .inl q, fun p hp => k p vs G _ (Step.newH sm hp) hp (sm.free hp) upd_same w⟩
  | _ => cases e
def intO : D → Option D
  | .int i => some (.int i)
  | .bl b => some (.int (if b then 1 else 0))
  | _ => none
theorem call_intO : CallR X (.type "int") (cR X.K intO) := by
  intro pins s σ H xs us Q I r h
  obtain ⟨G, d1, d, x, rfl, sm, r1, e, k⟩ := h
  cases d1 with
  | int i => cases e; have hx := r1.int; subst hx; exact call_int1 pins s σ H _ us Q I r (.inl ⟨i, rfl, k _ G H (Step.refl sm) (rep_int.mpr rfl)⟩)
  | bl b => cases e; have hx := r1.bl; subst hx; exact call_int1 pins s σ H _ us Q I r (.inr ⟨b, rfl, k _ G H (Step.refl sm) (rep_int.mpr rfl)⟩)
  | _ => cases e

/-! # sorted: ints, texts -/
def insI (x : Int) : List Int → List Int
  | [] => [x]
  | y :: ys => if x ≤ y then x :: y :: ys else y :: insI x ys
def sortI : List Int → List Int
  | [] => []
  | x :: xs => insI x (sortI xs)
def ltS (a b : Str) : Bool := decide (a.cps.toList < b.cps.toList)
def insS (x : Str) : List Str → List Str
  | [] => [x]
  | y :: ys => if ltS y x then y :: insS x ys else x :: y :: ys
def sortS : List Str → List Str
  | [] => []
  | x :: xs => insS x (sortS xs)
def ints? : List D → Option (List Int)
  | [] => some []
  | .int i :: r => (ints? r).map (i :: ·)
  | _ => none
def strs? : List D → Option (List Str)
  | [] => some []
  | .str i :: r => (strs? r).map (i :: ·)
  | _ => none
def sortO : D → Option (List D) := fun d => (lstO d).bind fun xs => if xs.length < 64 then match ints? xs with
    | some is => some ((sortI is).map .int)
    | none => (strs? xs).map fun ss => (sortS ss).map .str
  else none
end
end RD

set_option Elab.async false
set_option linter.all false
set_option maxRecDepth 100000
namespace RD
open PySem PySem.Spec PyProof.Rows L2

/-! # list comprehensions: [elt for tg in iter if c] -/
def clOf (names : List (Str × NameKind)) (cells : List (Str × Addr)) : List (Str × Addr) := ((names.filter fun y => y.2 == .free).reverse).map fun y => (y.1, (cells.lookup y.1).getD 0)
theorem closure_loop {env : Env} : ∀ (names : List (Str × NameKind)) (acc : List (Str × Addr)), (∀ y ∈ names, y.2 = .free → ∃ c, env.cells.lookup y.1 = some c) →
    (forIn names acc (fun (x : Str × NameKind) (cs : List (Str × Addr)) => (if x.2 == .free then (do let c ← cellOf env x.1; pure (ForInStep.yield ((x.1, c) :: cs))) else pure (ForInStep.yield cs) : Sem (ForInStep (List (Str × Addr)))))) = pure (clOf names env.cells ++ acc)
  | [], acc, _ => by simp [clOf]
  | (n, k) :: r, acc, h => by
    have ih := fun acc => closure_loop r acc fun y hy => h y (List.mem_cons_of_mem _ hy)
    rw [List.forIn_cons]
    by_cases hk : (k == NameKind.free) = true
    · obtain ⟨c, hc⟩ := h (n, k) List.mem_cons_self (by simpa using hk)
      simp only [hk, if_true]
      have e1 : cellOf env n = pure c := by unfold cellOf; rw [hc]
      rw [e1]
      show (forIn r ((n, c) :: acc) _ : Sem (List (Str × Addr))) = _
      rw [ih]
      congr 1
      simp [clOf, hk, hc]
    · simp only [hk, if_false]
      show (forIn r acc _ : Sem (List (Str × Addr))) = _
      rw [ih]
      congr 1
      simp [clOf, hk]
theorem closureFor_eq {scope : Scope} {env : Env} (h : ∀ y ∈ scope.names, y.2 = .free → ∃ c, env.cells.lookup y.1 = some c) : closureFor scope env = pure (clOf scope.names env.cells) := by
  have := closure_loop scope.names [] h
  rw [List.append_nil] at this
  unfold closureFor
  show (forIn scope.names [] _ >>= fun cs => pure cs) = _
  have e2 : (forIn scope.names ([] : List (Str × Addr)) (fun (x : Str × NameKind) (cs : List (Str × Addr)) => (match x with | (name, kind) => if kind == .free then (do let c ← cellOf env name; pure (ForInStep.yield ((name, c) :: cs))) else pure (ForInStep.yield cs) : Sem (ForInStep (List (Str × Addr)))))) = pure (clOf scope.names env.cells) := this
  first
    | exact (congrArg (fun t => t >>= fun cs => pure cs) e2).trans rfl
    | (erw [e2]; rfl)
theorem clOf_lookup {names : List (Str × NameKind)} {cells : List (Str × Addr)} {x : Str} {c : Addr} (h : (clOf names cells).lookup x = some c) : (x, NameKind.free) ∈ names ∧ c = (cells.lookup x).getD 0 := by
  have hm := PySem.mem_of_lookup h
  obtain ⟨y, hy, e⟩ := List.mem_map.mp hm
  obtain ⟨h1, h2⟩ := List.mem_filter.mp (List.mem_reverse.mp hy)
  cases e
  obtain ⟨n, k⟩ := y
  have : k = .free := by simpa using h2
  subst this
  exact ⟨h1, rfl⟩
theorem lookup_map_fn {F : Str → Addr} : ∀ (l : List (Str × NameKind)) {x : Str}, (∃ k, (x, k) ∈ l) → (l.map fun y => (y.1, F y.1)).lookup x = some (F x)
  | [], _, h => by obtain ⟨_, h⟩ := h; cases h
  | (n, k) :: r, x, h => by
    rw [List.map_cons, List.lookup_cons]
    by_cases e : x = n
    · subst e; simp
    · have : (x == n) = false := by simpa using e
      rw [this]
      refine lookup_map_fn r ?_
      obtain ⟨k', h⟩ := h
      rcases List.mem_cons.mp h with q | q
      · cases q; exact absurd rfl e
      · exact ⟨k', q⟩
theorem clOf_has {names : List (Str × NameKind)} {cells : List (Str × Addr)} {x : Str} (h : (x, NameKind.free) ∈ names) : (clOf names cells).lookup x = some ((cells.lookup x).getD 0) := by
  unfold clOf
  exact lookup_map_fn (F := fun x => (cells.lookup x).getD 0) _ ⟨.free, List.mem_reverse.mpr (List.mem_filter.mpr ⟨h, by simp⟩)⟩

/-- what is asked of the scopes, by a look -/
def compOk (N nm : List Str) (inner outer : List (Str × NameKind)) : Bool :=
  inner.all (fun y => y.2 != .cell && y.1 != "" && (y.2 != .local || inner.lookup y.1 == some .local) && (y.2 != .free || outer.lookup y.1 == some .cell || outer.lookup y.1 == some .free)) &&
  N.all (fun x => nm.contains x || match inner.lookup x with | none => true | some .free => true | some .globalImplicit => true | some .globalExplicit => true | _ => false)
def maskN (N nm : List Str) : List Str := N.map (fun y => if nm.contains y then ("" : Str) else y) ++ nm

/-- the context of the block -/
def compCx (X : Cx) (nm : List Str) (scope : Scope) (C : Addr) (s₃ : Shared) (H₃ : Hp) (ex : List Addr) : Cx :=
  { X with N := maskN X.N nm, s₀ := s₃, H₀ := H₃, env := compEnvC scope (clOf scope.names X.env.cells) C X.env, outer := X.stack, ex := ex, fn := fun _ => false, pn := [], xe := fun _ _ => False }

theorem relabel_lookup {env : Env} {x : Str} {k : NameKind} : ∀ {names : List (Str × NameKind)}, (names.map fun (n, k) => if (k == NameKind.free && env.scope.kind == .function && env.kindOf n == some .cell) then (n, NameKind.cell) else (n, k)).lookup x = some k →
    ∃ k', names.lookup x = some k' ∧ (k = k' ∨ (k = .cell ∧ k' = .free))
  | [], h => by simp at h
  | (n, k0) :: r, h => by
    have ih := @relabel_lookup env x k r
    rw [List.map_cons] at h
    dsimp only at h
    rw [List.lookup_cons]
    by_cases e : x = n
    · subst e
      simp only [BEq.rfl]
      refine ⟨k0, rfl, ?_⟩
      by_cases hc : (k0 == NameKind.free && env.scope.kind == .function && env.kindOf x == some .cell) = true
      · rw [if_pos hc, List.lookup_cons] at h
        simp only [BEq.rfl] at h
        cases h
        simp only [Bool.and_eq_true, beq_iff_eq] at hc
        exact .inr ⟨rfl, hc.1.1⟩
      · rw [if_neg hc, List.lookup_cons] at h
        simp only [BEq.rfl] at h
        cases h
        exact .inl rfl
    · have e' : (x == n) = false := by simpa using e
      rw [e']
      refine ih ?_
      by_cases hc : (k0 == NameKind.free && env.scope.kind == .function && env.kindOf n == some .cell) = true
      · rw [if_pos hc, List.lookup_cons, e'] at h; exact h
      · rw [if_neg hc, List.lookup_cons, e'] at h; exact h

def compL (g : D → Rho → Option Rho) (p : Rho → Option Bool) (f : Rho → Option D) : List D → Rho → Option (List D)
  | [], _ => some []
  | d :: ds, ρ => (g d ρ).bind fun ρ1 => (p ρ1).bind fun b => if b = true then (f ρ1).bind fun x => (compL g p f ds ρ).map (x :: ·) else compL g p f ds ρ
def sComp (m : Nat) (fl : Rho → Option (List D)) (g : D → Rho → Option Rho) (p : Rho → Option Bool) (f : Rho → Option D) : Rho → Option (List D) := fun ρ => (fl ρ).bind fun ds => if ds.length ≤ 1000000 then compL g p f ds (ρ ++ List.replicate m .un) else none

/-- the tests of a clause -/
def STs (X : Cx) (ifs : List Expr) (p : Rho → Option Bool) : Prop := (ifs = [] ∧ p = fun _ => some true) ∨ ∃ c, ifs = [c] ∧ SB X c p

theorem Er.app {K : PySem.W.Frag} {G H : Hp} {ρ : Rho} {σ : L2.St} (e : Er K G H ρ σ) (m : Nat) (τ : L2.St) (hτ : τ.length = m) : Er K G H (ρ ++ List.replicate m .un) (σ ++ τ) := by
  have low : ∀ {i : Nat} {s : Sl}, (ρ ++ List.replicate m .un)[i]? = some s → s = .un ∨ (i < ρ.length ∧ ρ[i]? = some s) := fun {i s} h => by
    by_cases hi : i < ρ.length
    · rw [List.getElem?_append_left hi] at h; exact .inr ⟨hi, h⟩
    · rw [List.getElem?_append_right (by omega), List.getElem?_replicate] at h
      split at h <;> cases h
      exact .inl rfl
  have up : ∀ {i : Nat}, i < ρ.length → (σ ++ τ)[i]? = σ[i]? := fun {i} hi => List.getElem?_append_left (by rw [← e.len]; exact hi)
  refine ⟨by simp [e.len, hτ], fun i d h => ?_, fun i xs h => ?_, fun i xs h => ?_, fun i j s t a ne h1 o1 h2 o2 q1 q2 => ?_⟩
  · rcases low h with z | ⟨hi, q⟩
    · cases z
    · rw [up hi]; exact e.val i d q
  · rcases low h with z | ⟨hi, q⟩
    · cases z
    · rw [up hi]; exact e.own i xs q
  · rcases low h with z | ⟨hi, q⟩
    · cases z
    · rw [up hi]; exact e.dic i xs q
  · rcases low h1 with z | ⟨hi, q⟩
    · subst z; cases o1
    rcases low h2 with z | ⟨hj, q'⟩
    · subst z; cases o2
    rw [up hi] at q1
    rw [up hj] at q2
    exact e.inj i j s t a ne q o1 q' o2 q1 q2

section
variable {X : Cx} {tg iter elt : Expr} {ifs : List Expr} {scope : Scope} {pos : Pos} {nm : List Str} {fl : Rho → Option (List D)} {gd : D → Rho → Option Rho} {p : Rho → Option Bool} {f : Rho → Option D}

theorem compOk_in {N nm : List Str} {inner outer : List (Str × NameKind)} (h : compOk N nm inner outer = true) {y : Str × NameKind} (hy : y ∈ inner) :
    y.2 ≠ .cell ∧ y.1 ≠ "" ∧ (y.2 = .local → inner.lookup y.1 = some .local) ∧ (y.2 = .free → outer.lookup y.1 = some .cell ∨ outer.lookup y.1 = some .free) := by
  unfold compOk at h
  rw [Bool.and_eq_true, List.all_eq_true] at h
  have := h.1 y hy
  simp only [Bool.and_eq_true, Bool.or_eq_true, bne_iff_ne, ne_eq, beq_iff_eq] at this
  obtain ⟨⟨⟨h1, h2⟩, h3⟩, h4⟩ := this
  refine ⟨h1, h2, fun e => ?_, fun e => ?_⟩
  · rcases h3 with z | z
    · exact absurd e z
    · exact z
  · rcases h4 with (z | z) | z
    · exact absurd e z
    · exact .inl z
    · exact .inr z
theorem compOk_N {N nm : List Str} {inner outer : List (Str × NameKind)} (h : compOk N nm inner outer = true) {x : Str} (hx : x ∈ N) (hn : ¬ nm.contains x = true) {k : NameKind} (hk : inner.lookup x = some k) : k ≠ .local ∧ k ≠ .cell := by
  unfold compOk at h
  rw [Bool.and_eq_true, List.all_eq_true, List.all_eq_true] at h
  have := h.2 x hx
  rw [Bool.or_eq_true] at this
  rcases this with z | z
  · exact absurd z hn
  · rw [hk] at z
    cases k <;> first | exact ⟨by decide, by decide⟩ | exact absurd z (by decide)

/-- the block's context stands -/
theorem compCx_ok {pins : List (Addr × Obj)} {σ : L2.St} {H : Hp} {s : Shared} (I : Inv X pins σ H s) (hk : scope.kind = .function) (hok : compOk X.N nm scope.names X.env.scope.names = true) {ex : List Addr} (hex : ∀ b ∈ ex, FpOk X pins H b) (hlt : ∀ b ∈ ex, b < s.heap.objs.size) :
    (compCx X nm scope s.heap.objs.size s H ex).Ok := by
  have cellsOk : ∀ x c, (clOf scope.names X.env.cells).lookup x = some c → X.env.cells.lookup x = some c := fun x c e => by
    obtain ⟨h1, h2⟩ := clOf_lookup e
    have h3 := (compOk_in hok h1).2.2.2 rfl
    obtain ⟨c', h4⟩ := I.ok.has x h3
    rw [h4] at h2
    rw [h4, h2]; rfl
  refine ⟨I.ok.mod, ?_, I.ok.glob, I.ok.blt, Nat.le_refl _, fun x y c h1 h2 => I.ok.inj x y c (cellsOk x c h1) (cellsOk y c h2), fun x hx => ?_, fun x c z => (by cases z), I.ok.hd, I.ok.frames, .inl rfl, fun b hb => ⟨?_, fun x c e => ?_⟩, I.bs, Nat.le_trans I.ok.bsz I.sz, fun b o e hb => ?_, fun b hb hf => ?_, I.stack, I.stkFree⟩
  · show (relabel scope X.env).kind = .function
    exact hk
  · have : ∃ k, (relabel scope X.env).names.lookup x = some k ∧ (k = .cell ∨ k = .free) := by
      rcases hx with z | z
      · exact ⟨_, z, .inl rfl⟩
      · exact ⟨_, z, .inr rfl⟩
    obtain ⟨k, e, hk'⟩ := this
    obtain ⟨k', e1, e2⟩ := relabel_lookup e
    have hm := PySem.mem_of_lookup e1
    have hc := (compOk_in hok hm).1
    have hf : k' = .free := by
      rcases e2 with z | ⟨_, z⟩
      · subst z
        rcases hk' with z | z
        · exact absurd z hc
        · exact z
      · exact z
    subst hf
    exact ⟨_, clOf_has hm⟩
  · exact Nat.ne_of_lt (hlt b hb)
  · exact (hex b hb).2.2.2.2.1 x c (cellsOk x c e)
  · have h1 := (hex b hb).2.2.2.1
    rcases h1 with z | z
    · exact I.ok.noex b o e z
    · exact absurd (Nat.lt_of_lt_of_le (Heap.lt_size (I.ok.bs b o e).1) z) (Nat.lt_irrefl _)
  · have h1 := I.stkSub b hf
    rcases List.mem_cons.mp h1 with z | z
    · exact (hex b hb).2.1 z
    · exact (hex b hb).2.2.1 z

theorem maskN_len (N nm : List Str) : (maskN N nm).length = N.length + nm.length := by simp [maskN]
theorem compCx_inv {pins : List (Addr × Obj)} {σ : L2.St} {H : Hp} {s : Shared} (I : Inv X pins σ H s) (hk : scope.kind = .function) (hok : compOk X.N nm scope.names X.env.scope.names = true) {ex : List Addr} (hex : ∀ b ∈ ex, FpOk X pins H b) (hlt : ∀ b ∈ ex, b < s.heap.objs.size)
    {h₁ : Heap} {m₁ : Str → Option Value} {tk : Nat} (hn : h₁.Ns s.heap.objs.size m₁) (keep : ∀ b o, s.heap.get? b = some o → h₁.get? b = some o) :
    Inv (compCx X nm scope s.heap.objs.size s H ex) [] (σ ++ List.replicate nm.length none) H { s with heap := h₁, toks := tk } := by
  have ok := compCx_ok (nm := nm) (scope := scope) I hk hok hex hlt
  have cellsOk : ∀ x c, (clOf scope.names X.env.cells).lookup x = some c → X.env.cells.lookup x = some c := fun x c e => by
    obtain ⟨h1, h2⟩ := clOf_lookup e
    have h3 := (compOk_in hok h1).2.2.2 rfl
    obtain ⟨c', h4⟩ := I.ok.has x h3
    rw [h4] at h2
    rw [h4, h2]; rfl
  refine ⟨ok, rfl, I.bare, Un.kept keep, ⟨m₁, hn, fun i x v e1 e2 e3 => ?_⟩, fun x c e => ?_, I.hok.fresh (Nat.le_refl _), fun x c e => I.freeC x c (cellsOk x c e), fun p hp => (by simp [compCx] at hp), I.hok.kept keep, ?_⟩
  · have hi : i < X.N.length := by
      by_cases hi : i < σ.length
      · rw [← I.len]; exact hi
      · rw [List.getElem?_append_right (by omega), List.getElem?_replicate] at e2
        split at e2 <;> cases e2
    have e1' : (X.N.map (fun y => if nm.contains y then ("" : Str) else y))[i]? = some x := by
      have : (maskN X.N nm)[i]? = some x := e1
      unfold maskN at this
      rwa [List.getElem?_append_left (by simpa using hi)] at this
    have e2' : σ[i]? = some (some v) := by rwa [List.getElem?_append_left (by rw [I.len]; exact hi)] at e2
    rw [List.getElem?_map] at e1'
    obtain ⟨y, ey, e4⟩ := Option.map_eq_some_iff.mp e1'
    have e3' : ∃ k, (relabel scope X.env).names.lookup x = some k ∧ (k = .local ∨ k = .cell ∨ k = .free) := by
      rcases e3 with z | z | z
      · exact ⟨_, z, .inl rfl⟩
      · exact ⟨_, z, .inr (.inl rfl)⟩
      · exact ⟨_, z, .inr (.inr rfl)⟩
    obtain ⟨k, hk1, hk2⟩ := e3'
    obtain ⟨k', hk3, hk4⟩ := relabel_lookup hk1
    have hm := PySem.mem_of_lookup hk3
    by_cases hc : nm.contains y = true
    · rw [if_pos hc] at e4
      exact absurd e4.symm (compOk_in hok hm).2.1
    · rw [if_neg hc] at e4
      subst e4
      obtain ⟨n1, n2⟩ := compOk_N hok (List.mem_of_getElem? ey) hc hk3
      have hf : k' = .free := by
        rcases hk4 with z | ⟨_, z⟩
        · subst z
          rcases hk2 with z | z | z
          · exact absurd z n1
          · exact absurd z n2
          · exact z
        · exact z
      subst hf
      have ho := (compOk_in hok hm).2.2.2 rfl
      obtain ⟨m0, hn0, hl0⟩ := I.loc
      obtain ⟨u, r, l⟩ := hl0 i y v ey e2' (by rcases ho with z | z; exact .inr (.inl z); exact .inr (.inr z))
      refine ⟨u, r, ?_⟩
      rcases l with ⟨z, _⟩ | ⟨_, c, hc1, hc2⟩
      · have z' : X.env.scope.names.lookup y = some .local := z
        rcases ho with q | q
        · rw [q] at z'; cases z'
        · rw [q] at z'; cases z'
      · right
        refine ⟨?_, c, ?_, ?_⟩
        · rcases hk2 with z | z | z
          · subst z
            rcases hk4 with q | ⟨q, _⟩ <;> cases q
          · exact .inl (by rw [← z]; exact hk1)
          · exact .inr (by rw [← z]; exact hk1)
        · show (clOf scope.names X.env.cells).lookup y = some c
          rw [clOf_has hm, hc1]; rfl
        · obtain ⟨o, q1, q2⟩ := hc2
          exact ⟨o, keep _ _ q1, q2⟩
  · obtain ⟨v, o, q1, q2⟩ := I.cell x c (cellsOk x c e)
    exact ⟨v, o, keep _ _ q1, q2⟩
  · show _ = (maskN X.N nm).length
    rw [maskN_len, List.length_append, List.length_replicate, I.len]

/-- a target that touches only what lies behind the frame's own names -/
def KeepsR (n : Nat) (g : D → Rho → Option Rho) : Prop := ∀ d ρ ρ1, g d ρ = some ρ1 → ρ1.length = ρ.length ∧ ∀ i, i < n → ρ1[i]? = ρ[i]?
theorem keeps_gN {n i : Nat} (h : n ≤ i) : KeepsR n (gN i) := fun d ρ ρ1 e => by
  cases e
  exact ⟨by simp, fun j hj => List.getElem?_set_ne (by omega)⟩
/-- back to the frame without the block's names -/
theorem Er.drop {K : PySem.W.Frag} {G H : Hp} {ρ ρ1 : Rho} {σ : L2.St} {m : Nat} (e : Er K G H ρ1 σ) (hl : ρ1.length = (ρ ++ List.replicate m Sl.un).length) (hk : ∀ i, i < ρ.length → ρ1[i]? = (ρ ++ List.replicate m Sl.un)[i]?) : Er K G H (ρ ++ List.replicate m .un) σ := by
  have low : ∀ {i : Nat} {s : Sl}, (ρ ++ List.replicate m .un)[i]? = some s → s = .un ∨ ρ1[i]? = some s := fun {i s} h => by
    by_cases hi : i < ρ.length
    · right; rw [hk i hi]; exact h
    · rw [List.getElem?_append_right (by omega), List.getElem?_replicate] at h
      split at h <;> cases h
      exact .inl rfl
  refine ⟨hl.symm.trans e.len, fun i d h => ?_, fun i xs h => ?_, fun i xs h => ?_, fun i j s t a ne h1 o1 h2 o2 q1 q2 => ?_⟩
  · rcases low h with z | q
    · cases z
    · exact e.val i d q
  · rcases low h with z | q
    · cases z
    · exact e.own i xs q
  · rcases low h with z | q
    · cases z
    · exact e.dic i xs q
  · rcases low h1 with z | q
    · subst z; cases o1
    rcases low h2 with z | q'
    · subst z; cases o2
    exact e.inj i j s t a ne q o1 q' o2 q1 q2
/-- from one frame to another, the heaps as they are -/
theorem Er.toSt {K : PySem.W.Frag} {G H : Hp} {ρ : Rho} {σ : L2.St} (e : Er K G H ρ σ) (s : Same G H) : StR K G (notOwn H ρ σ) G H ρ σ :=
  ⟨e, ⟨s, Same.refl _, notOwn_same, fun b o e n => by rw [e] at n; cases n⟩, fun i u a h o q => notOwn_own h o q⟩

/-- what no name owns may change -/
theorem Er.updOther {K : PySem.W.Frag} {G H : Hp} {ρ : Rho} {σ : L2.St} {a : Addr} {o : HO} (e : Er K G H ρ σ) (n : ∀ (j : Nat) (u : Sl), ρ[j]? = some u → u.isOwn = true → σ[j]? ≠ some (some (.ref a))) : Er K G (upd H a o) ρ σ where
  len := e.len
  val := e.val
  own := fun i xs h => by
    obtain ⟨b, vs, h1, h2, h3, h4⟩ := e.own i xs h
    exact ⟨b, vs, h1, h2, by rw [upd_ne (fun z => n i _ h rfl (by rw [← z]; exact h1))]; exact h3, h4⟩
  dic := fun i xs h => by
    obtain ⟨b, vs, h1, h2, h3, h4⟩ := e.dic i xs h
    exact ⟨b, vs, h1, h2, by rw [upd_ne (fun z => n i _ h rfl (by rw [← z]; exact h1))]; exact h3, h4⟩
  inj := e.inj

theorem compLoop_own {prog : Program} {w : World} {A : Around} {R : Result → Shared → Prop} {s : Shared} {it acc : Value} {env : Env} (W : Nat → Shared → Prop)
    (turn : ∀ n s, W n s → wpAny (model prog w) A (pyNext it) (fun r s₁ => match r with
      | none => R (.ok .next) s₁
      | some v => wpAny (model prog w) A (letOwnedTupleGo tg it v) (fun _ s₁ => wpAny (model prog w) A (assign tg env v) (fun _ s₂ =>
          wpAny (model prog w) A (forIn ifs true fun c r => if r = true then do let ok ← isTrue c env (eval c env); pure (ForInStep.yield ok) else pure (ForInStep.yield r)) (fun ok s₃ =>
            if ok = true then wpAny (model prog w) A (eval elt env) (fun x s₄ =>
              wpAny (model prog w) A (call (.builtin "list.append") [acc, x]) (fun _ s₅ => ∃ m, m < n ∧ W m s₅) (notedBy (model prog w) A env fun e s' => R (.error e) s') s₄) (notedBy (model prog w) A env fun e s' => R (.error e) s') s₃
            else ∃ m, m < n ∧ W m s₃) (notedBy (model prog w) A env fun e s' => R (.error e) s') s₂) (notedBy (model prog w) A env fun e s' => R (.error e) s') s₁) (notedBy (model prog w) A env fun e s' => R (.error e) s') s₁) (notedBy (model prog w) A env fun e s' => R (.error e) s') s)
    (n : Nat) (h : W n s) :
    codeAny (model prog w) A (.compLoop (.ListComp elt [⟨tg, iter, ifs, 0⟩] scope pos) 0 it acc env) R s := by
  refine codeAny_loop rfl W (fun n s hI => ?_) n h
  show wpAny _ A ((compTurn (.ListComp elt [⟨tg, iter, ifs, 0⟩] scope pos) 0 it acc env).onRaise (fun x => do noteFrame x env; theTreesLotGoes x)) _ _ s
  refine wpAny_noted ?_
  rw [compTurn_list]
  refine wpAny_bind (wpAny_standAt (wpAny_bind (wpAny_mono (turn n s hI) (fun r s₁ h₁ => ?_) fun _ _ h' => h')))
  cases r with
  | none => exact wpAny_pure h₁
  | some v =>
    refine wpAny_bind (wpAny_mono h₁ (fun _ s₁ h₁ => ?_) fun _ _ h' => h')
    refine wpAny_bind (wpAny_mono h₁ (fun _ s₂ h₂ => wpAny_bind (wpAny_mono h₂ (fun ok s₃ h₃ => ?_) fun _ _ h' => h')) fun _ _ h' => h')
    cases ok with
    | false => exact wpAny_pure ⟨rfl, h₃⟩
    | true =>
      exact wpAny_bind (wpAny_bind (wpAny_mono h₃ (fun x s₄ h₄ => wpAny_bind (wpAny_mono h₄ (fun _ s₅ h₅ => wpAny_pure (wpAny_pure ⟨rfl, h₅⟩)) fun _ _ h' => h')) fun _ _ h' => h'))

/-- one test or none -/
theorem tests_run {X : Cx} {pins : List (Addr × Obj)} {σ : L2.St} {H G : Hp} {s : Shared} {ρ : Rho} {b : Bool} {E : Value → Shared → Prop} (hx : X.xe = fun _ _ => False) (ht : STs X ifs p) (I : Inv X pins σ H s) (sm : Same G H) (er : Er X.K G H ρ σ) (hp : p ρ = some b) {Q : Bool → Shared → Prop}
    (hQ : ∀ G' H' s', Inv X pins σ H' s' → Step G H G' H' → Q b s') :
    wpAny (model X.prog X.w) X.A (forIn ifs true fun c r => if r = true then do let ok ← isTrue c X.env (eval c X.env); pure (ForInStep.yield ok) else pure (ForInStep.yield r)) Q E s := by
  rcases ht with ⟨rfl, rfl⟩ | ⟨c, rfl, hb⟩
  · cases hp
    rw [List.forIn_nil]
    exact wpAny_pure (hQ G H s I (Step.refl sm))
  · rw [List.forIn_cons]
    simp only [if_true]
    have := hb pins s σ H (fun k H' => k = b ∧ ∃ G', Step G H G' H') I ⟨G, ρ, b, sm, er, hp, fun G' H' t => ⟨rfl, G', t⟩⟩
    rw [hx] at this
    refine wpAny_bind (wpAny_bind (wpAny_mono this (fun k s1 h1 => ?_) fun _ _ z => z.elim))
    obtain ⟨H', I', rfl, G', t⟩ := h1
    refine wpAny_pure ?_
    show wpAny _ _ (forIn [] _ _) _ _ _
    rw [List.forIn_nil]
    exact wpAny_pure (hQ G' H' s1 I' t)

theorem comp_core {pins : List (Addr × Obj)} {σ : L2.St} {H G : Hp} {s : Shared} {ρ : Rho} {ds ys : List D} {J : It} {fp : List Addr} {it : Addr} {tn : Nat → Heap → Prop} {E : Value → Shared → Prop} {RR : Value → Addr → Result → Shared → Prop}
    (hc : X.calm = true) (hk : scope.kind = .function) (hok : compOk X.N nm scope.names X.env.scope.names = true) (hkg : KeepsR X.N.length gd)
    (hg : ∀ C s₃ H₃ ex, SG (compCx X nm scope C s₃ H₃ ex) tg gd) (ht : ∀ C s₃ H₃ ex, STs (compCx X nm scope C s₃ H₃ ex) ifs p) (he : ∀ C s₃ H₃ ex, SE (compCx X nm scope C s₃ H₃ ex) elt f)
    (I : Inv X pins σ H s) (T : Turn X.prog X.w X.K tg J fp it tn) (h0 : tn 0 s.heap) (hfp : ∀ b ∈ fp, FpOk X pins H b) (sm : Same G H) (er : Er X.K G H ρ σ) (iter' : Itr' X.K G J ds) (hl : ds.length ≤ 1000000)
    (hys : compL gd p f ds (ρ ++ List.replicate nm.length .un) = some ys)
    (hRR : ∀ (D C : Addr) (s' : Shared) (H' G' : Hp) (vs : List V) (m' : Str → Option Value), Inv X pins σ H' s' → Step G H G' H' → H D = none → G' D = none → H' D = some (.lst vs) → Reps X.K G' ys vs → s'.heap.Ns C m' → H' C = none → C ≠ X.env.locals →
      X.s₀.heap.objs.size ≤ C → (∀ x c, X.env.cells.lookup x = some c → c ≠ C) → (∀ p ∈ X.pn ++ pins, p.1 ≠ C) → RR (.ref D) C (.ok .next) s') :
    wpAny (model X.prog X.w) X.A (newList []) (fun acc s₃ => wpAny (model X.prog X.w) X.A (newFunctionEnv scope X.env.globals (clOf scope.names X.env.cells) [] X.env.qual none .none (some X.env)) (fun cenv s₄ =>
      codeAny (model X.prog X.w) X.A (.compStart (.ListComp elt [⟨tg, iter, ifs, 0⟩] scope pos) 0 (.ref it) acc { cenv with scope := relabel scope X.env }) (RR acc cenv.locals) s₄) E s₃) E s := by
  have hfplt : ∀ b ∈ fp, b < s.heap.objs.size := fun b hb => by
    obtain ⟨o, e, _⟩ := T.obj 0 s.heap h0 b hb
    exact Heap.lt_size e
  refine wpAny_newObj_type ?_
  have I₃ : Inv X pins σ (upd H s.heap.objs.size (.lst [])) { s with heap := s.heap.push { cls := .type "list", data := .seq ([] : List Value).toArray } } := I.lnew (t' := s.toks) (ys := []) (its := []) .nil (Nat.zero_le _)
  have nD : H s.heap.objs.size = none := I.fresh
  generalize hs₃ : ({ s with heap := s.heap.push { cls := .type "list", data := .seq ([] : List Value).toArray } } : Shared) = s₃ at I₃ ⊢
  have hsz3 : s₃.heap.objs.size = s.heap.objs.size + 1 := by rw [← hs₃]; exact Heap.size_push ..
  have hfp3 : ∀ b ∈ fp, FpOk X pins (upd H s.heap.objs.size (.lst [])) b := fun b hb => ⟨by rw [upd_ne (Nat.ne_of_lt (hfplt b hb))]; exact (hfp b hb).1, (hfp b hb).2⟩
  have hlt3 : ∀ b ∈ fp, b < s₃.heap.objs.size := fun b hb => by rw [hsz3]; exact Nat.lt_succ_of_lt (hfplt b hb)
  have st3 : tn 0 s₃.heap := T.keep 0 s.heap _ h0 fun b hb o e => by rw [← hs₃]; exact Heap.get?_push_of_some _ e
  refine wpAny_newFunctionEnv (fun y hy => (compOk_in hok hy).1) (by intro y hy; simp at hy) (fun h₁ hns₁ hsb₁ => ?_) hk
  have keep : ∀ b o, s₃.heap.get? b = some o → h₁.get? b = some o := fun b o e => hsb₁.extBut b o (Nat.ne_of_lt (Heap.lt_size e)) (Heap.get?_push_of_some _ e)
  have I4 := compCx_inv (nm := nm) (scope := scope) (tk := s₃.toks + ([] : List (Str × Value)).length) I₃ hk hok hfp3 hlt3 hns₁ keep
  have st4 : tn 0 h₁ := T.keep 0 _ _ st3 fun b hb o e => keep b o e
  generalize hs₄ : ({ s₃ with heap := h₁, toks := s₃.toks + ([] : List (Str × Value)).length } : Shared) = s₄ at I4
  have st4' : tn 0 s₄.heap := by rw [← hs₄]; exact st4
  show codeAny _ _ (.compStart _ 0 (.ref it) (.ref s.heap.objs.size) (compEnvC scope (clOf scope.names X.env.cells) s₃.heap.objs.size X.env)) (RR (.ref s.heap.objs.size) s₃.heap.objs.size) s₄
  have hb3 : ∀ b ∈ fp, FpOk (compCx X nm scope s₃.heap.objs.size s₃ (upd H s.heap.objs.size (.lst [])) fp) [] (upd H s.heap.objs.size (.lst [])) b := fun b hb =>
    ⟨(hfp3 b hb).1, (I4.ok.exf b hb).1, fun z => I4.ok.exfs b hb z, .inl hb, (I4.ok.exf b hb).2, fun p hp => (by simp [compCx] at hp)⟩
  have stat : ∀ {H' : Hp}, (∀ b ∈ fp, H' b = none) → ∀ b ∈ fp, FpOk (compCx X nm scope s₃.heap.objs.size s₃ (upd H s.heap.objs.size (.lst [])) fp) [] H' b := fun hn b hb => ⟨hn b hb, (hb3 b hb).2⟩
  have hr : ρ.length = X.N.length := by rw [er.len, I.len]
  have loop : codeAny (model X.prog X.w) X.A (.compLoop (.ListComp elt [⟨tg, iter, ifs, 0⟩] scope pos) 0 (.ref it) (.ref s.heap.objs.size) (compEnvC scope (clOf scope.names X.env.cells) s₃.heap.objs.size X.env)) (RR (.ref s.heap.objs.size) s₃.heap.objs.size) s₄ := by
    refine compLoop_own (fun n s' => ∃ i σ' H1 G1 zs vs rest, n = ds.length - i ∧ i ≤ ds.length ∧ Inv (compCx X nm scope s₃.heap.objs.size s₃ (upd H s.heap.objs.size (.lst [])) fp) [] σ' H1 s' ∧ tn i s'.heap ∧ (∀ b ∈ fp, H1 b = none) ∧
        Step G H G1 H1 ∧ Er X.K G1 H1 (ρ ++ List.replicate nm.length .un) σ' ∧ (∀ (j : Nat) (u : Sl), (ρ ++ List.replicate nm.length Sl.un)[j]? = some u → u.isOwn = true → σ'[j]? ≠ some (some (.ref s.heap.objs.size))) ∧ G1 s.heap.objs.size = none ∧ H1 s.heap.objs.size = some (.lst vs) ∧ Reps X.K G1 zs vs ∧ zs.length ≤ i ∧
        compL gd p f (ds.drop i) (ρ ++ List.replicate nm.length .un) = some rest ∧ ys = zs ++ rest) ?_ ds.length
      ⟨0, _, _, G, [], [], ys, by simp, Nat.zero_le _, I4, st4', fun b hb => (hfp3 b hb).1, Step.newH sm nD, (er.step (Step.newH sm nD)).app nm.length _ (by simp), (fun j u h1 h2 h3 => by
        by_cases hj : j < ρ.length
        · rw [List.getElem?_append_left hj] at h1
          rw [List.getElem?_append_left (by rw [← er.len]; exact hj)] at h3
          obtain ⟨a', u', q1, _, q3⟩ := er.ownAt h1 h2
          rw [h3] at q1; cases q1
          rw [nD] at q3; cases q3
        · rw [List.getElem?_append_right (by omega), List.getElem?_replicate] at h1
          split at h1 <;> cases h1
          cases h2), sm.free nD, upd_same, Reps.nil, Nat.le_refl _, by simpa using hys, rfl⟩
    rintro n s5 ⟨i, σ5, H5, G5, zs, vs, rest, rfl, hi, I5, st5, fr5, t5, er5, nd5, gD5, hD5, rz5, lz5, ec5, ey5⟩
    by_cases hlt : i < ds.length
    · have ed : ds.drop i = ds[i] :: ds.drop (i + 1) := List.drop_eq_getElem_cons hlt
      rw [ed] at ec5
      obtain ⟨ρ6, e6, ec5⟩ := Option.bind_eq_some_iff.mp ec5
      obtain ⟨b6, e7, ec5⟩ := Option.bind_eq_some_iff.mp ec5
      refine wpAny_mono (T.item (compCx X nm scope s₃.heap.objs.size s₃ (upd H s.heap.objs.size (.lst [])) fp) rfl rfl rfl hc i [] s5 σ5 H5 (notedBy (model X.prog X.w) X.A _ fun e s' => RR (.ref s.heap.objs.size) s₃.heap.objs.size (.error e) s') I5 (stat fr5) st5 (iter'.go i H5 (t5.g.trans t5.s) hlt)) (fun r s6 ⟨u, hr6, h6⟩ => ?_) fun _ _ z => z
      subst hr6
      refine wpAny_mono h6 (fun _ s7 ⟨x7, H7, I7, rx7, y7, st7, fr7⟩ => ?_) fun _ _ z => z
      obtain ⟨G7, t7, r7⟩ := iter'.yld i G5 H5 x7 H7 t5.g t5.s hlt y7
      have I7' := I7.pinned (stat fr7) (T.obj _ _ st7)
      have er7 := er5.step t7
      have hx : (compCx X nm scope s₃.heap.objs.size s₃ (upd H s.heap.objs.size (.lst [])) fp).xe = fun _ _ => False := rfl
      have hgr := hg s₃.heap.objs.size s₃ (upd H s.heap.objs.size (.lst [])) fp _ s7 σ5 H7 x7 u (fun σ8 H8 => H8 = H7 ∧ Er X.K G7 H7 ρ6 σ8 ∧ ∀ (j : Nat) (u : Sl), ρ6[j]? = some u → u.isOwn = true → σ8[j]? ≠ some (some (.ref s.heap.objs.size))) I7' rx7
        ⟨G7, notOwn H7 _ σ5, G7, _, ds[i], ρ6, er7.toSt t7.s, r7 _ (by simp [hlt]), e6, fun σ8 st8 => ⟨rfl, st8.er, fun j u h1 h2 h3 => by
          have q := st8.ow j u _ h1 h2 h3
          unfold notOwn at q
          split at q
          · rename_i hh
            obtain ⟨i', u', w1, w2, w3⟩ := hh
            exact nd5 i' u' w1 w2 w3
          · rw [t7.h _ _ hD5] at q; cases q⟩⟩
      refine wpAny_mono hgr (fun _ s8 ⟨σ8, H8, I8, e8, er8, nd8⟩ => ?_) fun _ _ z => (by rw [hx] at z; exact z.elim)
      subst e8
      obtain ⟨k1, k2⟩ := hkg _ _ _ e6
      rw [← hr] at k2
      have again : ∀ {G9 H9 : Hp} {s9 : Shared} {zs' : List D} {vs' : List V} {rest' : List D}, Inv (compCx X nm scope s₃.heap.objs.size s₃ (upd H s.heap.objs.size (.lst [])) fp) ([] ++ pinsAt fp s7.heap) σ8 H9 s9 → Step G H G9 H9 → Er X.K G9 H9 ρ6 σ8 → G9 s.heap.objs.size = none → H9 s.heap.objs.size = some (.lst vs') → Reps X.K G9 zs' vs' →
          zs'.length ≤ i + 1 → compL gd p f (ds.drop (i + 1)) (ρ ++ List.replicate nm.length .un) = some rest' → ys = zs' ++ rest' → ∃ m, m < ds.length - i ∧ ∃ i σ' H1 G1 zs vs rest, m = ds.length - i ∧ i ≤ ds.length ∧ Inv (compCx X nm scope s₃.heap.objs.size s₃ (upd H s.heap.objs.size (.lst [])) fp) [] σ' H1 s9 ∧ tn i s9.heap ∧ (∀ b ∈ fp, H1 b = none) ∧
        Step G H G1 H1 ∧ Er X.K G1 H1 (ρ ++ List.replicate nm.length .un) σ' ∧ (∀ (j : Nat) (u : Sl), (ρ ++ List.replicate nm.length Sl.un)[j]? = some u → u.isOwn = true → σ'[j]? ≠ some (some (.ref s.heap.objs.size))) ∧ G1 s.heap.objs.size = none ∧ H1 s.heap.objs.size = some (.lst vs) ∧ Reps X.K G1 zs vs ∧ zs.length ≤ i ∧
        compL gd p f (ds.drop i) (ρ ++ List.replicate nm.length .un) = some rest ∧ ys = zs ++ rest := fun {G9 H9 s9 zs' vs' rest'} I9 t9 er9 g9 h9 r9 l9 c9 y9 => by
        refine ⟨ds.length - (i + 1), by omega, i + 1, σ8, H9, G9, zs', vs', rest', rfl, hlt, I9.unpinned, T.keep _ _ _ st7 fun b hb o e => (I9.pin (b, o) (List.mem_append_right _ (List.mem_append_right _ (mem_pinsAt hb e)))).1, fun b hb => ?_, t9, er9.drop k1 k2, (fun j u h1 h2 h3 => by
          by_cases hj : j < ρ.length
          · exact nd8 j u (by rw [k2 j hj]; exact h1) h2 h3
          · rw [List.getElem?_append_right (by omega), List.getElem?_replicate] at h1
            split at h1 <;> cases h1
            cases h2), g9, h9, r9, l9, c9, y9⟩
        obtain ⟨o, e, d⟩ := T.obj _ _ st7 b hb
        exact (I9.pin (b, o) (List.mem_append_right _ (List.mem_append_right _ (mem_pinsAt hb e)))).2.1
      refine tests_run (X := compCx X nm scope s₃.heap.objs.size s₃ (upd H s.heap.objs.size (.lst [])) fp) hx (ht s₃.heap.objs.size s₃ (upd H s.heap.objs.size (.lst [])) fp) I8 t7.s er8 e7 fun G9 H9 s9 I9 t9 => ?_
      have tt := (t5.trans t7).trans t9
      have gD9 : G9 s.heap.objs.size = none := by
        cases q : G9 s.heap.objs.size with
        | none => rfl
        | some o =>
          have := (t7.trans t9).f _ o q gD5
          rw [hD5] at this; cases this
      have hD9 : H9 s.heap.objs.size = some (.lst vs) := (t7.trans t9).h _ _ hD5
      cases b6 with
      | false =>
        rw [if_neg Bool.false_ne_true] at ec5 ⊢
        exact again I9 tt (er8.step t9) gD9 hD9 (Reps.mono (t7.trans t9).g _ _ rz5) (by omega) ec5 ey5
      | true =>
        rw [if_pos rfl] at ec5 ⊢
        obtain ⟨y, e10, ec5⟩ := Option.bind_eq_some_iff.mp ec5
        obtain ⟨rest', e11, rfl⟩ := Option.map_eq_some_iff.mp ec5
        have her := he s₃.heap.objs.size s₃ (upd H s.heap.objs.size (.lst [])) fp _ s9 σ8 H9 (fun v H' => ∃ G', Step G9 H9 G' H' ∧ Rep X.K G' y v) I9 ⟨G9, ρ6, y, t9.s, er8.step t9, e10, fun v G' H' t r => ⟨G', t, r⟩⟩
        refine wpAny_mono her (fun uy s10 ⟨vy, H10, I10, rvy, G10, t10, ry⟩ => ?_) fun _ _ z => (by rw [hx] at z; exact z.elim)
        have gD10 : G10 s.heap.objs.size = none := by
          cases q : G10 s.heap.objs.size with
          | none => rfl
          | some o =>
            have := t10.f _ o q gD9
            rw [hD9] at this; cases this
        have hD10 : H10 s.heap.objs.size = some (.lst vs) := t10.h _ _ hD9
        have tt10 := tt.trans t10
        have lv : vs.length = zs.length := rz5.length.symm
        have hap := mt_append (X := compCx X nm scope s₃.heap.objs.size s₃ (upd H s.heap.objs.size (.lst [])) fp) _ s10 σ8 H10 (.ref s.heap.objs.size) [vy] (.ref s.heap.objs.size) [uy] (fun _ H' => H' = upd H10 s.heap.objs.size (.lst (vs ++ [vy]))) I10 rfl (.cons rvy .nil)
          ⟨s.heap.objs.size, vs, vy, rfl, rfl, hD10, Nat.lt_of_lt_of_le (by omega : vs.length < 1000001) (by decide), rfl⟩
        refine wpAny_mono hap (fun _ s11 ⟨_, H11, I11, _, e11'⟩ => ?_) fun _ _ z => (by rw [hx] at z; exact z.elim)
        subst e11'
        have sG : Same G10 (upd H10 s.heap.objs.size (.lst (vs ++ [vy]))) := fun b o e => by
          rw [upd_ne (fun z => by rw [z, gD10] at e; cases e)]; exact t10.s b o e
        have t11 : Step G H G10 (upd H10 s.heap.objs.size (.lst (vs ++ [vy]))) := ⟨tt10.g, fun b o e => by rw [upd_ne (ne_of_none e nD)]; exact tt10.h b o e, sG, tt10.f⟩
        have er11 : Er X.K G10 (upd H10 s.heap.objs.size (.lst (vs ++ [vy]))) ρ6 σ8 := ((er8.step t9).step t10).updOther nd8
        exact again I11 t11 er11 gD10 upd_same ((Reps.mono ((t7.trans t9).trans t10).g _ _ rz5).append (Reps.cons ry Reps.nil)) (by simp only [List.length_append, List.length_cons, List.length_nil]; omega) e11 (by rw [ey5]; simp)
    · have e : i = ds.length := by omega
      subst e
      rw [List.drop_length] at ec5
      cases ec5
      rw [List.append_nil] at ey5
      subst ey5
      refine wpAny_mono (T.done (compCx X nm scope s₃.heap.objs.size s₃ (upd H s.heap.objs.size (.lst [])) fp) rfl rfl rfl hc _ [] s5 σ5 H5 (notedBy (model X.prog X.w) X.A _ fun e s' => RR (.ref s.heap.objs.size) s₃.heap.objs.size (.error e) s') I5 (stat fr5) st5 (iter'.stop _ H5 (t5.g.trans t5.s) (Nat.le_refl _))) (fun r s6 ⟨hr6, I6⟩ => ?_) fun _ _ z => z
      subst hr6
      have Iout : Inv X pins σ H5 s6 := I₃.call' (ch := fp) I6.os I6.base I6.hok I6.bare fun b hb => ⟨(hfp b hb).2.2.2.1, (hfp b hb).2.1, (hfp b hb).2.2.2.2.1, (hfp b hb).2.2.2.2.2⟩
      obtain ⟨m6, hn6, _⟩ := I6.loc
      exact hRR s.heap.objs.size s₃.heap.objs.size s6 H5 G5 vs m6 Iout t5 nD gD5 hD5 rz5 hn6 I6.free (Nat.ne_of_gt I₃.lt) I₃.sz (fun x c e => Nat.ne_of_lt (by obtain ⟨v, q⟩ := I₃.cell x c e; exact q.lt)) fun p hp => Nat.ne_of_lt (Heap.lt_size (I₃.pin p hp).1)
  exact codeAny_compStart_list loop (T.self _ 0 s₄ _ _ st4' loop)

/-- the new list, as a value -/
theorem sf_comp {m : Nat} (hm : nm.length = m) (hc : X.calm = true) (hk : scope.kind = .function) (hok : compOk X.N nm scope.names X.env.scope.names = true) (hi : SI X tg iter fl) (hkg : KeepsR X.N.length gd)
    (hg : ∀ C s₃ H₃ ex, SG (compCx X nm scope C s₃ H₃ ex) tg gd) (ht : ∀ C s₃ H₃ ex, STs (compCx X nm scope C s₃ H₃ ex) ifs p) (he : ∀ C s₃ H₃ ex, SE (compCx X nm scope C s₃ H₃ ex) elt f)
    (hs : ∀ x, foldedSetIterable iter X.env x = pure x := by intro _; rfl) : SF X (.ListComp elt [⟨tg, iter, ifs, 0⟩] scope pos) (sComp m fl gd p f) := by
  intro pins s σ H Q I h
  obtain ⟨G, ρ, ys, sm, er, ef, k⟩ := h
  obtain ⟨ds, e1, e2⟩ := Option.bind_eq_some_iff.mp ef
  split at e2
  · rename_i hl
    subst hm
    have hclos : closureFor scope X.env = pure (clOf scope.names X.env.cells) := closureFor_eq fun y hy hf => I.ok.has y.1 ((compOk_in hok hy).2.2.2 hf)
    rw [eval_ListComp]
    refine wpAny_comprehension_free (use := none) rfl hs hclos hk (fun y hy => (compOk_in hok hy).2.2.1) (thn (hi pins s σ H _ I ⟨G, ρ, ds, sm, er, e1, fun J G' H' t it => (⟨G', t, it⟩ : ∃ G', Step G H G' H' ∧ Itr' X.K G' J ds)⟩) fun v s1 h1 => thn h1 fun itv s2 h2 => ?_)
    obtain ⟨it, fp, tn, J, H2, rfl, I2, T, st2, f2, G2, t2, it2⟩ := h2
    refine comp_core (RR := fun acc C => compPost (model X.prog X.w) X.A X.xe none (EP X pins σ Q) acc C) hc hk hok hkg hg ht he I2 T st2 f2 t2.s (er.step t2) it2 hl e2 fun D C s' H' G' vs m' I' t' nD gD hD rD hn hC1 hC2 hC3 hC4 hC5 => ?_
    refine ⟨m', hn, fun h' hs' => ⟨.ref D, H', ?_, rfl, k D vs G' H' (t2.trans t') (t2.h.free nD) gD hD rD⟩⟩
    exact I'.turned (t' := s'.toks) (fun b o hb e => hs'.extBut b o hb e) hC1 hC2 (.inr hC3) hC4 hC5
  · cases e2

/-- x = [..]: the store comes ahead of the block's end -/
theorem set_comp {m : Nat} {x : Str} {py spos : Pos} {i : Nat} {fo : Rho → List D → Out} (hm : nm.length = m) (hc : X.calm = true) (hk : scope.kind = .function) (hok : compOk X.N nm scope.names X.env.scope.names = true) (hi : SI X tg iter fl) (hkg : KeepsR X.N.length gd)
    (hg : ∀ C s₃ H₃ ex, SG (compCx X nm scope C s₃ H₃ ex) tg gd) (ht : ∀ C s₃ H₃ ex, STs (compCx X nm scope C s₃ H₃ ex) ifs p) (he : ∀ C s₃ H₃ ex, SE (compCx X nm scope C s₃ H₃ ex) elt f)
    (hN : X.N.Nodup) (hx : X.N[i]? = some x) (hloc : Loc X.env.scope x)
    (hsw : swapsWith (.ListComp elt [⟨tg, iter, ifs, 0⟩] scope pos) (some (.Name x py)) spos.line X.env = pure true)
    (hf : X.fn x = true ∨ X.env.scope.names.lookup x = some .local) (hs : ∀ x, foldedSetIterable iter X.env x = pure x)
    (hfo : ∀ {G0 H0 G H G' H' : Hp} {ρ : Rho} {σ : L2.St} {a : Addr} {vs : List V} {ys : List D} {E : Ends}, StR X.K G0 H0 G H ρ σ → Step G H G' H' → H a = none → G' a = none → H' a = some (.lst vs) → Reps X.K G' ys vs → Post X.K G0 H0 E (fo ρ ys) → E.nx (σ.set i (some (.ref a))) H') :
    SS X (.Assign [.Name x py] (.ListComp elt [⟨tg, iter, ifs, 0⟩] scope pos) spos) (fun ρ => (sComp m fl gd p f ρ).map (fo ρ)) := by
  intro pins s σ H E I h
  obtain ⟨G0, H0, G, ρ, o, st, ef, k⟩ := h
  obtain ⟨ys, ef1, rfl⟩ := Option.map_eq_some_iff.mp ef
  obtain ⟨ds, e1, e2⟩ := Option.bind_eq_some_iff.mp ef1
  split at e2
  · rename_i hl
    subst hm
    have hclos : closureFor scope X.env = pure (clOf scope.names X.env.cells) := closureFor_eq fun y hy hf => I.ok.has y.1 ((compOk_in hok hy).2.2.2 hf)
    rw [exec_Assign_Name_used _ _ _ _ hsw]
    refine wpAny_bind (wpAny_standAt (wpAny_bind ?_))
    show wpAny _ X.A (do let _ ← comprehension (.ListComp elt [⟨tg, iter, ifs, 0⟩] scope pos) scope X.env _ (newList []) false (eval iter X.env) (some (assign (.Name x py) X.env))) _ _ s
    refine wpAny_bind (wpAny_mono (wpAny_comprehension_free (use := some (assign (.Name x py) X.env)) (Q := fun _ s' => SP X pins E .next s') rfl hs hclos hk (fun y hy => (compOk_in hok hy).2.2.1)
      (thn (hi pins s σ H _ I ⟨G, ρ, ds, st.bs.gh, st.er, e1, fun J G' H' t it => (⟨G', t, it⟩ : ∃ G', Step G H G' H' ∧ Itr' X.K G' J ds)⟩) fun v s1 h1 => thn h1 fun itv s2 h2 => ?_)) (fun _ s' hq => wpAny_pure (wpAny_pure hq)) fun _ _ e => e)
    obtain ⟨it, fp, tn, J, H2, rfl, I2, T, st2, f2, G2, t2, it2⟩ := h2
    refine comp_core (RR := fun acc C => compPost (model X.prog X.w) X.A X.xe (some (assign (.Name x py) X.env)) (fun _ s' => SP X pins E .next s') acc C) hc hk hok hkg hg ht he I2 T st2 f2 t2.s (st.er.step t2) it2 hl e2 fun D C s' H' G' vs m' I' t' nD gD hD rD hn hC1 hC2 hC3 hC4 hC5 => ?_
    show wpAny _ _ (assign (.Name x py) X.env (.ref D)) _ _ _
    refine wpAny_assign_Name (store_ok2 (v := .ref D) I' hN hx hloc rfl (fun s'' I'' hsb => ?_) hf)
    obtain ⟨a, hsb, ha⟩ := hsb
    have hCa : C ≠ a := by
      rcases ha with z | z
      · rw [z]; exact hC2
      · exact (hC4 x a z).symm
    refine ⟨m', hn.sameBut hsb hCa, fun h' hs' => ⟨_, H', I''.turned (t' := s''.toks) (fun b o hb e => hs'.extBut b o hb e) hC1 hC2 (.inr hC3) hC4 hC5, ?_⟩⟩
    exact hfo st (t2.trans t') (t2.h.free nD) gD hD rD k
  · cases e2
variable {m : Nat} {x : Str} {py spos : Pos}
theorem ss_setComp (i : Nat) (hm : nm.length = m) (hc : X.calm = true) (hk : scope.kind = .function) (hok : compOk X.N nm scope.names X.env.scope.names = true) (hi : SI X tg iter fl) (hkg : KeepsR X.N.length gd)
    (hg : ∀ C s₃ H₃ ex, SG (compCx X nm scope C s₃ H₃ ex) tg gd) (ht : ∀ C s₃ H₃ ex, STs (compCx X nm scope C s₃ H₃ ex) ifs p) (he : ∀ C s₃ H₃ ex, SE (compCx X nm scope C s₃ H₃ ex) elt f)
    (hN : X.N.Nodup) (hx : X.N[i]? = some x) (hloc : Loc X.env.scope x)
    (hsw : swapsWith (.ListComp elt [⟨tg, iter, ifs, 0⟩] scope pos) (some (.Name x py)) spos.line X.env = pure true := by rfl)
    (hf : X.fn x = true ∨ X.env.scope.names.lookup x = some .local := by first | exact .inl rfl | exact .inr rfl | assumption) (hs : ∀ x, foldedSetIterable iter X.env x = pure x := by intro _; rfl) :
    SS X (.Assign [.Name x py] (.ListComp elt [⟨tg, iter, ifs, 0⟩] scope pos) spos) (sSet i fun ρ => (sComp m fl gd p f ρ).map .lst) := by
  have := set_comp (fo := fun ρ ys => .nx (ρ.set i (.v (.lst ys)))) hm hc hk hok hi hkg hg ht he hN hx hloc hsw hf hs (fun {G0 H0 G H G' H' ρ σ a vs ys E} st t h1 h2 h3 r k => k _ _ _ ((st.step (se_new t h1 h2 h3)).setV (rep_lst.mpr ⟨a, vs, rfl, SqL.of upd_same, Reps.mono (same_upd h2) _ _ r⟩)))
  refine weakS this fun Q σ H ⟨G0, H0, G, ρ, o, st, ef, k⟩ => ⟨G0, H0, G, ρ, o, st, ?_, k⟩
  unfold sSet at ef
  rw [Option.map_map] at ef
  exact ef
theorem ss_setCompL (i : Nat) (hm : nm.length = m) (hc : X.calm = true) (hk : scope.kind = .function) (hok : compOk X.N nm scope.names X.env.scope.names = true) (hi : SI X tg iter fl) (hkg : KeepsR X.N.length gd)
    (hg : ∀ C s₃ H₃ ex, SG (compCx X nm scope C s₃ H₃ ex) tg gd) (ht : ∀ C s₃ H₃ ex, STs (compCx X nm scope C s₃ H₃ ex) ifs p) (he : ∀ C s₃ H₃ ex, SE (compCx X nm scope C s₃ H₃ ex) elt f)
    (hN : X.N.Nodup) (hx : X.N[i]? = some x) (hloc : Loc X.env.scope x)
    (hsw : swapsWith (.ListComp elt [⟨tg, iter, ifs, 0⟩] scope pos) (some (.Name x py)) spos.line X.env = pure true := by rfl)
    (hf : X.fn x = true ∨ X.env.scope.names.lookup x = some .local := by first | exact .inl rfl | exact .inr rfl | assumption) (hs : ∀ x, foldedSetIterable iter X.env x = pure x := by intro _; rfl) :
    SS X (.Assign [.Name x py] (.ListComp elt [⟨tg, iter, ifs, 0⟩] scope pos) spos) (sSetL i (sComp m fl gd p f)) :=
  set_comp (fo := fun ρ ys => .nx (ρ.set i (.l ys))) hm hc hk hok hi hkg hg ht he hN hx hloc hsw hf hs (fun {G0 H0 G H G' H' ρ σ a vs ys E} st t h1 h2 h3 r k => k _ _ _ (st.setOwn t rfl h1 h2 (fun xs z => by cases z; exact ⟨vs, h3, r⟩) fun _ z => by cases z))
end
end RD

set_option Elab.async false
set_option linter.all false
set_option maxRecDepth 100000
namespace RD
open PySem PySem.Spec PyProof.Rows L2 SeqAt

/-! # sorting, the mathematics -/
theorem insI_perm (x : Int) : ∀ xs, (insI x xs).Perm (x :: xs)
  | [] => List.Perm.refl _
  | y :: ys => by
    unfold insI
    split
    · exact List.Perm.refl _
    · exact ((insI_perm x ys).cons y).trans (List.Perm.swap x y ys)
theorem sortI_perm : ∀ xs, (sortI xs).Perm xs
  | [] => List.Perm.refl _
  | x :: xs => (insI_perm x _).trans ((sortI_perm xs).cons x)
theorem insI_pw (x : Int) : ∀ xs, xs.Pairwise (· ≤ ·) → (insI x xs).Pairwise (· ≤ ·)
  | [], _ => by simp [insI]
  | y :: ys, h => by
    unfold insI
    split
    · rename_i hxy
      refine List.pairwise_cons.mpr ⟨fun z hz => ?_, h⟩
      rcases List.mem_cons.mp hz with rfl | hz
      · exact hxy
      · exact Int.le_trans hxy ((List.pairwise_cons.mp h).1 z hz)
    · rename_i hxy
      refine List.pairwise_cons.mpr ⟨fun z hz => ?_, insI_pw x ys (List.pairwise_cons.mp h).2⟩
      rcases List.mem_cons.mp ((insI_perm x ys).mem_iff.mp hz) with rfl | hz
      · omega
      · exact (List.pairwise_cons.mp h).1 z hz
theorem sortI_pw : ∀ xs, (sortI xs).Pairwise (· ≤ ·)
  | [] => by simp [sortI]
  | x :: xs => insI_pw x _ (sortI_pw xs)
theorem pw_unique_int : ∀ (a b : List Int), a.Perm b → a.Pairwise (· ≤ ·) → b.Pairwise (· ≤ ·) → a = b := fun a b p h1 h2 =>
  p.eq_of_pairwise (fun x y _ _ h3 h4 => Int.le_antisymm h3 h4) h1 h2
def leS (a b : Str) : Prop := ltS b a = false
theorem leS_antisymm {a b : Str} (h1 : leS a b) (h2 : leS b a) : a = b := by
  unfold leS ltS at h1 h2
  have h1' : ¬ b.cps.toList < a.cps.toList := by simpa using h1
  have h2' : ¬ a.cps.toList < b.cps.toList := by simpa using h2
  have h3 : a.cps.toList = b.cps.toList := List.le_antisymm (List.not_lt.mp h1') (List.not_lt.mp h2')
  cases a; cases b
  simp only [Str.mk.injEq]
  exact Array.toList_inj.mp h3
theorem leS_trans {a b c : Str} (h1 : leS a b) (h2 : leS b c) : leS a c := by
  unfold leS ltS at *
  have h1' : ¬ b.cps.toList < a.cps.toList := by simpa using h1
  have h2' : ¬ c.cps.toList < b.cps.toList := by simpa using h2
  have := List.le_trans (List.not_lt.mp h1') (List.not_lt.mp h2')
  simpa using List.not_lt.mpr this
theorem leS_of_lt {a b : Str} (h : ltS a b = true) : leS a b := by
  unfold leS ltS at *
  have h' : a.cps.toList < b.cps.toList := by simpa using h
  simpa using List.not_lt.mpr (List.le_of_lt h')
theorem insS_perm (x : Str) : ∀ xs, (insS x xs).Perm (x :: xs)
  | [] => List.Perm.refl _
  | y :: ys => by
    unfold insS
    split
    · exact ((insS_perm x ys).cons y).trans (List.Perm.swap x y ys)
    · exact List.Perm.refl _
theorem sortS_perm : ∀ xs, (sortS xs).Perm xs
  | [] => List.Perm.refl _
  | x :: xs => (insS_perm x _).trans ((sortS_perm xs).cons x)
theorem insS_pw (x : Str) : ∀ xs, xs.Pairwise leS → (insS x xs).Pairwise leS
  | [], _ => by simp [insS]
  | y :: ys, h => by
    unfold insS
    split
    · rename_i hxy
      refine List.pairwise_cons.mpr ⟨fun z hz => ?_, insS_pw x ys (List.pairwise_cons.mp h).2⟩
      rcases List.mem_cons.mp ((insS_perm x ys).mem_iff.mp hz) with rfl | hz
      · exact leS_of_lt hxy
      · exact (List.pairwise_cons.mp h).1 z hz
    · rename_i hxy
      have hxy' : leS x y := by unfold leS; simpa using hxy
      refine List.pairwise_cons.mpr ⟨fun z hz => ?_, h⟩
      rcases List.mem_cons.mp hz with rfl | hz
      · exact hxy'
      · exact leS_trans hxy' ((List.pairwise_cons.mp h).1 z hz)
theorem sortS_pw : ∀ xs, (sortS xs).Pairwise leS
  | [] => by simp [sortS]
  | x :: xs => insS_pw x _ (sortS_pw xs)
theorem risingS_le {p : Str} : ∀ {l : List Str}, risingS p l = true → (p :: l).Pairwise leS
  | [], _ => by simp
  | x :: r, h => by
    have h' : (!ltCps x.cps.toList p.cps.toList && risingS x r) = true := h
    rw [Bool.and_eq_true] at h'
    have h2 := risingS_le h'.2
    have h1 : leS p x := by
      unfold leS ltS
      have := h'.1
      rw [ltCps_eq] at this
      simpa using this
    refine List.pairwise_cons.mpr ⟨fun z hz => ?_, h2⟩
    rcases List.mem_cons.mp hz with rfl | hz
    · exact h1
    · exact leS_trans h1 ((List.pairwise_cons.mp h2).1 z hz)
theorem sortedS_le {l : List Str} (h : sortedS l = true) : l.Pairwise leS := by
  cases l with
  | nil => simp
  | cons p l => exact risingS_le h
theorem pw_unique_str (a b : List Str) (p : a.Perm b) (h1 : a.Pairwise leS) (h2 : b.Pairwise leS) : a = b :=
  p.eq_of_pairwise (fun x y _ _ h3 h4 => leS_antisymm h3 h4) h1 h2

theorem ints_some : ∀ {xs : List D} {is : List Int}, ints? xs = some is → xs = is.map .int
  | [], is, h => by cases h; rfl
  | d :: r, is, h => by
    cases d with
    | int i =>
      obtain ⟨js, e, rfl⟩ := Option.map_eq_some_iff.mp h
      rw [List.map_cons, ← ints_some e]
    | _ => cases h
theorem strs_some : ∀ {xs : List D} {is : List Str}, strs? xs = some is → xs = is.map .str
  | [], is, h => by cases h; rfl
  | d :: r, is, h => by
    cases d with
    | str i =>
      obtain ⟨js, e, rfl⟩ := Option.map_eq_some_iff.mp h
      rw [List.map_cons, ← strs_some e]
    | _ => cases h
section
variable {K : PySem.W.Frag} {G : Hp}
theorem reps_ints : ∀ {is : List Int} {vs : List V}, Reps K G (is.map .int) vs → vs = is.map V.int
  | [], vs, h => reps_nil.mp h
  | i :: is, vs, h => by
    obtain ⟨v, r, rfl, h1, h2⟩ := reps_cons.mp h
    rw [rep_int.mp h1, reps_ints h2]; rfl
theorem reps_strs : ∀ {is : List Str} {vs : List V}, Reps K G (is.map .str) vs → vs = is.map V.str
  | [], vs, h => reps_nil.mp h
  | i :: is, vs, h => by
    obtain ⟨v, r, rfl, h1, h2⟩ := reps_cons.mp h
    rw [rep_str.mp h1, reps_strs h2]; rfl
theorem Reps.strs : ∀ (ns : List Str), Reps K G (ns.map D.str) (ns.map V.str)
  | [] => Reps.nil
  | n :: ns => Reps.cons (rep_str.mpr rfl) (Reps.strs ns)
end
theorem strsAre_of : ∀ {ss : List Str} {us : List Value}, Vals (ss.map V.str) us → StrsAre us ss
  | [], us, r => by cases r; exact .nil
  | s :: ss, us, r => by
    cases r with
    | cons r1 r2 => obtain ⟨t, rfl⟩ := r1; exact .cons s t (strsAre_of r2)
theorem of_strsAre : ∀ {ss : List Str} {us : List Value}, StrsAre us ss → Vals (ss.map V.str) us
  | _, _, .nil => .nil
  | _, _, .cons y t h => .cons ⟨t, rfl⟩ (of_strsAre h)
theorem of_intsAre : ∀ {ns : List Int} {us : List Value}, IntsAre us ns → Vals (ns.map V.int) us
  | _, _, .nil => .nil
  | _, _, .cons y t h => .cons ⟨t, rfl⟩ (of_intsAre h)
section
variable {X : Cx} {a b : Expr} {f g : Rho → Option D} {fl : Rho → Option (List D)} {pos : Pos}
/-- of a list alone -/
def sortLO : D → Option (List D)
  | .lst xs => sortO (.lst xs)
  | _ => none
theorem call_sortO : CallR X (.builtin "sorted") (cF X.K sortLO) := by
  intro pins s σ H xs us Q I r h
  obtain ⟨G, d1, ys, x, rfl, sm, r1, e, k⟩ := h
  obtain ⟨u, rfl, ru⟩ := vals1 r
  cases d1 with
  | lst zs =>
    simp only [sortLO, sortO, lstO, Option.bind_some] at e
    obtain ⟨a, vs, rfl, q, w⟩ := r1.list sm
    cases ru
    obtain ⟨its, vv, p, hz⟩ := I.list q
    split at e
    · rename_i hl
      have l1 := w.length
      have l2 := vv.length
      have fin : ∀ {out : Array Value} {vs' : List V} {ys' : List D}, Vals vs' out.toList → Reps X.K G ys' vs' → vs'.length ≤ sizeLine → ys = ys' → EP X pins σ Q (.ref (s.heap.objs.size + 1)) { s with heap := sortedAll s.heap its out } := fun {out vs' ys'} h1 h2 h3 h4 => by
        subst h4
        have hn : H (s.heap.objs.size + 1) = none := I.hok.fresh (Nat.le_succ _)
        obtain ⟨e', he⟩ := sortedAll_at s.heap its out
        refine ⟨.ref (s.heap.objs.size + 1), upd H (s.heap.objs.size + 1) (.lst vs'), I.laid (t' := s.toks) (fun _ _ => sortedAll_old) (Nat.le_succ _) ⟨h3, out.toList, e', h1, ?_⟩, rfl, k _ vs' G _ (Step.newH sm hn) hn (sm.free hn) upd_same h2⟩
        rw [he]
      split at e
      · rename_i is hi
        cases e
        have := ints_some hi
        subst this
        have hv := reps_ints w
        subst hv
        refine sorted_ints p.isList (intsAre_of vv) (by omega) fun out ns' a1 a2 a3 => ?_
        have e5 := pw_unique_int _ _ (a2.trans (sortI_perm is).symm) a3 (sortI_pw is)
        subst e5
        refine fin (of_intsAre a1) (Reps.ints _) ?_ rfl
        have := (sortI_perm is).length_eq
        rw [List.length_map] at l1 ⊢
        simp only [List.length_map] at hl
        exact line1000 (by omega)
      · rename_i hi
        obtain ⟨ss, e2, rfl⟩ := Option.map_eq_some_iff.mp e
        have := strs_some e2
        subst this
        have hv := reps_strs w
        subst hv
        refine sorted_strs p.isList (strsAre_of vv) (by omega) fun out ns' a1 a2 a3 => ?_
        have e5 := pw_unique_str _ _ (a2.trans (sortS_perm ss).symm) (sortedS_le a3) (sortS_pw ss)
        subst e5
        refine fin (of_strsAre a1) (Reps.strs _) ?_ rfl
        have := (sortS_perm ss).length_eq
        rw [List.length_map] at l1 ⊢
        simp only [List.length_map] at hl
        exact line1000 (by omega)
    · cases e
  | _ => cases e

/-! # ''.join(list of texts) -/
def joinO (sep : Str) : D → Option D
  | .lst xs => (strs? xs).bind fun ss => if (ss.map (·.length)).sum + ss.length * sep.length ≤ 1000000 then some (.str (Txt.join sep ss)) else none
  | _ => none
theorem se_join {sep : Str} {j : Nat} {p1 apos cpos : Pos} (ha : SR X a f)
    (hbase : attributeBase (.Constant (.str sep) j p1) "join" X.env (eval (.Constant (.str sep) j p1) X.env) = eval (.Constant (.str sep) j p1) X.env := by rfl)
    (hfew : ((backTo cpos (starEach [a] X.env)).all (fun x => !x.1) && (backToKw cpos (keywordEach [] X.env)).all (fun x => x.1.isSome)
      && decide ([a].length + ([] : List Keyword).length + (if ([] : List Keyword).isEmpty then 0 else 1) < 30)) = true := by rfl)
    (hline : (apos.endLine == cpos.line) = true := by rfl) (hs : starEach [a] X.env = (false, eval a X.env) :: starEach [] X.env := by rfl) (hplain : (backTo cpos (starEach [] X.env)).any (·.1) = false := by rfl) :
    SE X (.Call (.Attribute (.Constant (.str sep) j p1) "join" apos) [a] [] cpos) (b1 f (joinO sep)) := by
  have hm : MtR X "str.join" (fun x xs H Q => x = .str sep ∧ cR X.K (joinO sep) xs H Q) := by
    intro pins s σ H x xs v us Q I rx r ⟨ex, G, d1, d, y, ey, sm, r1, e, k⟩
    subst ex ey
    obtain ⟨t, rfl⟩ := rx
    obtain ⟨u, rfl, ru⟩ := vals1 r
    cases d1 with
    | lst zs =>
      obtain ⟨ss, e1, e⟩ := Option.bind_eq_some_iff.mp e
      split at e
      · rename_i hl
        cases e
        obtain ⟨a, vs, rfl, q, w⟩ := r1.list sm
        cases ru
        obtain ⟨its, vv, p, hz⟩ := I.list q
        have := strs_some e1
        subst this
        have hv := reps_strs w
        subst hv
        exact join_list p.isList (strsAre_of vv) (by omega) fun t' k' => ⟨.str _, H, I.tok _, ⟨_, rfl⟩, k _ G H (Step.refl sm) (rep_str.mpr rfl)⟩
      · cases e
    | _ => cases e
  refine weak (pe_bm PySem.F.plainAttrs_str PySem.F.slot_str_join PySem.F.type_str_join hm pe_str (pa_cons ha pa_nil hs) hbase hfew hline hs hplain) fun σ H Q h => ?_
  refine ⟨rfl, ?_⟩
  obtain ⟨G, ρ, d, s, er, ef, k⟩ := h
  obtain ⟨d1, e1, ef⟩ := Option.bind_eq_some_iff.mp ef
  exact ⟨G, ρ, d1, s, er, e1, fun v1 G1 H1 t1 r1 => ⟨rfl, G1, d1, d, v1, rfl, t1.s, r1, ef, fun v G' H' t r => k v G' H' (t1.trans t) r⟩⟩

/-! # lists of a name's own: append, extend, [i] = -/
def sApp (i : Nat) (f : Rho → Option D) : Rho → Option Out := fun ρ => (gL ρ i).bind fun xs => if xs.length < 1000000 then (f ρ).map fun d => .nx (ρ.set i (.l (xs ++ [d]))) else none
variable {o : Expr} {i : Nat} {apos cpos : Pos}
theorem ss_append (i : Nat) (ho : PE X o (tVar i)) (ha : SE X a f)
    (hbase : attributeBase o "append" X.env (eval o X.env) = eval o X.env := by rfl)
    (hfew : ((backTo cpos (starEach [a] X.env)).all (fun x => !x.1) && (backToKw cpos (keywordEach [] X.env)).all (fun x => x.1.isSome)
      && decide ([a].length + ([] : List Keyword).length + (if ([] : List Keyword).isEmpty then 0 else 1) < 30)) = true := by rfl)
    (hline : (apos.endLine == cpos.line) = true := by rfl) (hs : starEach [a] X.env = (false, eval a X.env) :: starEach [] X.env := by rfl) (hplain : (backTo cpos (starEach [] X.env)).any (·.1) = false := by rfl)
    (hsw : swapsWith (.Call (.Attribute o "append" apos) [a] [] cpos) none pos.line X.env = pure false := by rfl) :
    SS X (.Expr (.Call (.Attribute o "append" apos) [a] [] cpos) pos) (sApp i f) :=
  weakS (ps_expr (pe_bm PySem.F.plainAttrs_list PySem.F.slot_list_append PySem.F.type_list_append mt_append ho (pa_cons ha pa_nil hs) hbase hfew hline hs hplain) hsw) fun E σ H ⟨G0, H0, G, ρ, o, st, ef, k⟩ => by
    obtain ⟨xs, e1, ef⟩ := Option.bind_eq_some_iff.mp ef
    split at ef
    · rename_i hl
      obtain ⟨d, e2, rfl⟩ := Option.map_eq_some_iff.mp ef
      have e1' := gL_eq e1
      obtain ⟨a1, vs, q1, q2, q3, q4⟩ := st.er.own i xs e1'
      refine ⟨_, q1, .inl ⟨rfl, vs, SqL.of q3⟩, G, ρ, d, st.bs.gh, st.er, e2, fun v G' H' t r => ?_⟩
      have st' := st.step t
      obtain ⟨a2, vs2, w1, w2, w3, w4⟩ := st'.er.own i xs e1'
      rw [q1] at w1; cases w1
      exact ⟨a1, vs2, v, rfl, rfl, w3, Nat.lt_of_lt_of_le (by rw [← w4.length]; exact hl) (by decide), k σ G' _ (st'.mut e1' rfl rfl q1 (fun ys z => by cases z; exact ⟨_, rfl, w4.append (Reps.cons r Reps.nil)⟩) fun _ z => by cases z)⟩
    · cases ef
def sSetIx (i : Nat) (fi f : Rho → Option D) : Rho → Option Out := fun ρ => (f ρ).bind fun d => (gL ρ i).bind fun xs => (fi ρ).bind fun di => match di with
  | .int n => (ixN xs.length n).map fun j => .nx (ρ.set i (.l (xs.set j d)))
  | _ => none
theorem ss_setIx {ie : Expr} {fi : Rho → Option D} {tpos : Pos} (i : Nat) (ho : PE X o (tVar i)) (hi : SE X ie fi) (ha : SE X a f)
    (hg : ∀ v, assign (.Subscript o ie tpos) X.env v = (do
      let ov ← holding [v] (eval o X.env)
      let iv ← holding [v, ov] (eval ie X.env)
      standAt tpos
      holding [v, ov, iv] (setItem ov iv v)
      release [v, ov, iv] []) := by intro _; rfl)
    (hs : swapsWithSole [.Subscript o ie tpos] a pos.line X.env = pure false := by rfl) (hw : swappedStores [.Subscript o ie tpos] a X.env = pure none := by rfl)
    (h1 : (assignEach [.Subscript o ie tpos] X.env).map (·.2) = [assign (.Subscript o ie tpos) X.env] := by rfl) : SS X (.Assign [.Subscript o ie tpos] a pos) (sSetIx i fi f) :=
  weakS (ps_asg ha (pg_sub ho hi set_list hg) hs hw h1) fun E σ H ⟨G0, H0, G, ρ, o, st, ef, k⟩ => by
    obtain ⟨d, e1, ef⟩ := Option.bind_eq_some_iff.mp ef
    obtain ⟨xs, e2, ef⟩ := Option.bind_eq_some_iff.mp ef
    obtain ⟨di, e3, ef⟩ := Option.bind_eq_some_iff.mp ef
    have e2' := gL_eq e2
    cases di with
    | int n =>
      obtain ⟨j, e4, rfl⟩ := Option.map_eq_some_iff.mp ef
      refine ⟨G, ρ, d, st.bs.gh, st.er, e1, fun v G1 H1 t1 r1 => ?_⟩
      obtain ⟨a1, vs, q1, q2, q3, q4⟩ := (st.step t1).er.own i xs e2'
      refine ⟨_, q1, G1, ρ, _, t1.s, st.er.step t1, e3, fun v2 G2 H2 t2 r2 => ?_⟩
      have st' := (st.step t1).step t2
      obtain ⟨a2, vs2, w1, w2, w3, w4⟩ := st'.er.own i xs e2'
      rw [q1] at w1; cases w1
      exact ⟨a1, vs2, n, j, rfl, rep_int.mp r2, w3, by rw [← w4.length]; exact e4, k σ G2 _ (st'.mut e2' rfl rfl q1 (fun ys z => by cases z; exact ⟨_, rfl, w4.set j (Rep.mono t2.g _ _ r1)⟩) fun _ z => by cases z)⟩
    | _ => cases ef
end

/-! # enumerate(list), with a tuple of targets -/
def Ite (K : PySem.W.Frag) (a : Addr) : It :=
  ⟨fun i H => ∃ xs x, SqL K H a xs ∧ xs[i]? = some x, fun i H x H' => ∃ p y, H p = none ∧ x = .ref p ∧ H' = upd H p (.tup [.int i, y]) ∧ ∀ xs, SqL K H a xs → xs[i]? = some y, fun i H => ∃ xs, SqL K H a xs ∧ xs.length ≤ i⟩
def enumF : Nat → List D → List D
  | _, [] => []
  | n, x :: xs => D.tup [.int (n : Int), x] :: enumF (n + 1) xs
theorem enumF_len : ∀ (n : Nat) (xs : List D), (enumF n xs).length = xs.length
  | _, [] => rfl
  | n, x :: xs => by simp [enumF, enumF_len (n + 1) xs]
theorem enumF_get : ∀ (n : Nat) (xs : List D) (i : Nat) (d : D), (enumF n xs)[i]? = some d → ∃ x, xs[i]? = some x ∧ d = D.tup [.int ((n + i : Nat) : Int), x]
  | _, [], _, _, h => by simp [enumF] at h
  | n, x :: xs, 0, d, h => by simp [enumF] at h; exact ⟨x, rfl, by simp [h.symm]⟩
  | n, x :: xs, i + 1, d, h => by
    obtain ⟨y, e1, e2⟩ := enumF_get (n + 1) xs i d (by simpa [enumF] using h)
    exact ⟨y, by simpa using e1, by rw [e2]; congr 3; omega⟩
section
variable {P : Program} {w : World} {K : PySem.W.Frag}
theorem turn_enum {es : List Expr} {k : Nat} {tpos : Pos} (a e it : Addr) (hei : e ≠ it) : Turn P w K (.Tuple es k tpos) (Ite K a) [e, it] e (fun i h => (∃ old, IsEnum h e it i old) ∧ h.IsListIter it a i) where
  mem := by simp
  obj := fun i h st b hb => by
    obtain ⟨⟨old, he⟩, o, ho, hc, hd⟩ := st
    rcases List.mem_cons.mp hb with rfl | hb
    · exact ⟨_, he, fun v z => by cases z⟩
    · have e1 : b = it := by simpa using hb
      subst e1
      exact ⟨o, ho, fun v z => by rw [hd] at z; cases z⟩
  keep := fun i h h' st hk => by
    obtain ⟨⟨old, he⟩, o, ho, hc, hd⟩ := st
    exact ⟨⟨old, hk e (by simp) _ he⟩, o, hk it (by simp) o ho, hc, hd⟩
  item := by
    intro X e1 e2 e3 hcalm i pins s σ H E I hf st go
    subst e1 e2 e3
    obtain ⟨⟨old, he⟩, hit⟩ := st
    obtain ⟨xs, x, hq, hx⟩ := go
    obtain ⟨its, vv, p, hz⟩ := I.list hq
    obtain ⟨u, hu, ru⟩ := vv.get hx
    have fe := hf e (by simp)
    have fi := hf it (by simp)
    have hne_e : ∀ b o, H b = some o → b ≠ e := fun b o q z => by rw [z, fe.1] at q; cases q
    have hne_i : ∀ b o, H b = some o → b ≠ it := fun b o q z => by rw [z, fi.1] at q; cases q
    refine wpAny_pyNext_enum_item he hit p.isList (by simpa using hu) hei fun h' ho hit' hT hsz hk => ⟨_, rfl, ?_⟩
    refine wpAny_letOwnedTupleGo_enum ho fun h'' he'' hs'' => ?_
    have hn : H s.heap.objs.size = none := I.hok.fresh (Nat.le_refl _)
    have hks : ∀ b o, b ≠ e → b ≠ it → s.heap.get? b = some o → h''.get? b = some o := fun b o h1 h2 q => (hs''.2 b h1).trans (hk b o h1 h2 q)
    have helt : e < s.heap.objs.size := Heap.lt_size he
    have hTe : s.heap.objs.size ≠ e := Nat.ne_of_gt helt
    have hT'' : h''.get? s.heap.objs.size = some { cls := .type "tuple", data := .seq #[.int i s.toks, u] } := (hs''.2 _ hTe).trans hT
    have hne_T : ∀ b o, H b = some o → b ≠ s.heap.objs.size := fun b o q z => by rw [z, hn] at q; cases q
    have hilt : it < s.heap.objs.size := by obtain ⟨o, q, _⟩ := hit; exact Heap.lt_size q
    have fch : ∀ b ∈ [e, it], (b ∈ X.ex ∨ X.s₀.heap.objs.size ≤ b) ∧ b ≠ X.env.locals ∧ (∀ x c, X.env.cells.lookup x = some c → c ≠ b) ∧ ∀ p ∈ X.pn ++ pins, p.1 ≠ b := fun b hb => ⟨(hf b hb).2.2.2.1, (hf b hb).2.1, (hf b hb).2.2.2.2.1, (hf b hb).2.2.2.2.2⟩
    have off : ∀ b, b ∉ [e, it] → b ≠ e ∧ b ≠ it := fun b hb => ⟨fun z => hb (by simp [z]), fun z => hb (by simp [z])⟩
    have I' : Inv X pins σ (upd H s.heap.objs.size (.tup [.int i, x])) { s with heap := h'', toks := s.toks + 1 } := by
      refine I.step (g' := s.gens) (d' := s.drawn) (ch := [e, it]) fch (fun b o _ _ hc q _ => hks b o (off b hc).1 (off b hc).2 q) (fun b o _ _ hc q _ => ⟨o.slots, hks b o (off b hc).1 (off b hc).2 q⟩)
        (fun b o _ q n => by rw [upd_ne (Nat.ne_of_lt (Heap.lt_size q))]; exact n) (fun b o hc q => ⟨o, hks b o (off b hc).1 (off b hc).2 q⟩)
        (fun b ys q => by rw [upd_ne (hne_T b _ q)]; exact q) (fun b o' u' q => by rw [upd_ne (hne_T b _ q)]; exact q) (fun b ps q => ⟨#[], by rw [upd_ne (hne_T b _ q), q]; simp⟩)
        (fun m hm => ?_) (fun b u' q => ?_) I.bare
      · obtain ⟨o, es', ep, ho', r⟩ := hm
        exact ⟨o, es', ep, hks _ o (Ne.symm fe.2.1) (Ne.symm fi.2.1) ho', r⟩
      · by_cases hb : b = s.heap.objs.size
        · subst hb
          rw [upd_same] at q; cases q
          exact ⟨by show 2 ≤ sizeLine; decide, [.int i s.toks, u], .cons ⟨_, rfl⟩ (.cons ru .nil), ⟨_, hT'', rfl, _, rfl, rfl⟩⟩
        · rw [upd_ne hb] at q
          refine (I.hok b u' q).stay (fun c v hc r => ?_) (fun c r => by rw [upd_ne (hne_T c _ r)]; exact r) fun c ys r => by rw [upd_ne (hne_T c _ r)]; exact r
          rcases hc with z | z
          · subst z; exact hks c v (hne_e c _ q) (hne_i c _ q) r
          · exact hks c v (hne_e c _ z) (hne_i c _ z) r
    refine ⟨.ref s.heap.objs.size, _, I', rfl, ⟨s.heap.objs.size, x, hn, rfl, rfl, fun ys hy => ?_⟩, ⟨⟨_, by simpa using he''⟩, ?_⟩, fun b hb => ?_⟩
    · rw [← I.list_inj hq hy]; exact hx
    · obtain ⟨o, q1, q2⟩ := hit'
      exact ⟨o, (hs''.2 it (Ne.symm hei)).trans q1, q2⟩
    · have : b ≠ s.heap.objs.size := by
        rcases List.mem_cons.mp hb with z | z
        · rw [z]; exact Nat.ne_of_lt helt
        · have z' : b = it := by simpa using z
          rw [z']; exact Nat.ne_of_lt hilt
      rw [upd_ne this]; exact (hf b hb).1
  done := by
    intro X e1 e2 e3 hcalm i pins s σ H E I hf st stop
    subst e1 e2 e3
    obtain ⟨⟨old, he⟩, hit⟩ := st
    obtain ⟨xs, hq, hx⟩ := stop
    obtain ⟨its, vv, p, hz⟩ := I.list hq
    have fi := hf it (by simp)
    refine wpAny_pyNext_enum_end (I.ok.hd hcalm) he hit p.isList (by simp; rw [← vv.length]; exact hx) fun h' hk => ⟨rfl, ?_⟩
    exact I.turned (t' := s.toks) (fun b o hb q => hk b o hb q) fi.1 fi.2.1 fi.2.2.2.1 fi.2.2.2.2.1 fi.2.2.2.2.2
  self := fun A i s Q E st h => by
    obtain ⟨⟨old, he⟩, _⟩ := st
    exact wpAny_pyIter_enum he h
end
theorem it_enum {K : PySem.W.Frag} {G : Hp} {a : Addr} {vs : List V} {ds : List D} (h : SqL K G a vs) (r : Reps K G ds vs) : Itr' K G (Ite K a) (enumF 0 ds) where
  go := fun i H s hi => by
    rw [enumF_len] at hi
    exact ⟨vs, vs[i]'(by rw [← r.length]; exact hi), s.seq h, by simp [← r.length, hi]⟩
  stop := fun i H s hi => by
    rw [enumF_len] at hi
    exact ⟨vs, s.seq h, by rw [← r.length]; exact hi⟩
  yld := fun i G1 H x H' s1 s hi y => by
    obtain ⟨p, y, hp, rfl, rfl, hy⟩ := y
    refine ⟨_, Step.new s hp, fun d e => ?_⟩
    obtain ⟨d', e1, rfl⟩ := enumF_get 0 ds i d e
    obtain ⟨v, e2, e3⟩ := r.get e1
    have := hy vs ((s1.trans s).seq h)
    rw [e2] at this; cases this
    refine rep_tup.mpr ⟨p, _, rfl, SqT.of upd_same, Reps.cons (rep_int.mpr (by simp)) (Reps.cons ?_ Reps.nil)⟩
    exact Rep.mono (same_upd (s.free hp)) _ _ (Rep.mono s1 _ _ e3)
section
variable {X : Cx} {a : Expr} {f : Rho → Option D} {es : List Expr} {k : Nat} {tpos p pos : Pos}
def iEn (f : Rho → Option D) : Rho → Option (List D) := fun ρ => (f ρ).bind fun d => match d with
  | .lst xs => some (enumF 0 xs)
  | _ => none
theorem si_enum (hg : Gl X "enumerate") (hm : X.mg "enumerate" = none) (ha : SE X a f) (hs : starEach [a] X.env = (false, eval a X.env) :: starEach [] X.env := by rfl) (hpl : (backTo pos (starEach [] X.env)).any (·.1) = false := by rfl) :
    SI X (.Tuple es k tpos) (.Call (.Name "enumerate" p) [a] [] pos) (iEn f) := by
  intro pins s σ H R I ⟨G, ρ, ds, sm, er, ef, kk⟩
  obtain ⟨d, e1, e2⟩ := Option.bind_eq_some_iff.mp ef
  cases d with
  | lst xs =>
    cases e2
    refine wpAny_Call_Name_kw (ld_blt I hg hm boot_enumerate ?_)
    refine PyProof.Rows.callWith_type1 (thn (pa_cons ha pa_nil hs pos pins s σ H (fun vs H' => ∃ G' v, vs = [v] ∧ Step G H G' H' ∧ Rep X.K G' (.lst xs) v) I ⟨G, ρ, _, sm, er, e1, fun v G' H' t r => ⟨G', v, rfl, t, r⟩⟩) fun us s1 ⟨vs, H1, I1, rv, G1, v, ev, t1, r1⟩ => ?_) hs hpl
    subst ev
    obtain ⟨u, rfl, ru⟩ := vals1 rv
    obtain ⟨l, vs, rfl, q, w⟩ := rep_lst.mp r1
    cases ru
    obtain ⟨its, vv, pl, hz⟩ := I1.list (t1.s.seq q)
    refine call_enumerate_list pl.isList fun h' he hit hsz hk => ?_
    refine wpAny_pyIter_enum he ?_
    have hlt := fun b o (e : s1.heap.get? b = some o) => hk b o e
    have I2 : Inv X pins σ H1 { s1 with heap := h' } := I1.kept (t' := s1.toks) hk
    have n1 : H1 s1.heap.objs.size = none := I1.hok.fresh (Nat.le_refl _)
    have n2 : H1 (s1.heap.objs.size + 1) = none := I1.hok.fresh (Nat.le_succ _)
    refine ⟨s1.heap.objs.size + 1, [s1.heap.objs.size + 1, s1.heap.objs.size], _, _, H1, rfl, I2, turn_enum l (s1.heap.objs.size + 1) s1.heap.objs.size (Nat.succ_ne_self _), ⟨⟨_, he⟩, hit⟩, fun b hb => ?_, kk _ G1 H1 t1 (it_enum q w)⟩
    rcases List.mem_cons.mp hb with z | z
    · rw [z]; exact I1.fpOk (Nat.le_succ _) n2
    · have z' : b = s1.heap.objs.size := by simpa using z
      rw [z']; exact I1.fpOk (Nat.le_refl _) n1
  | _ => cases e2
end
end RD

set_option Elab.async false
set_option linter.all false
set_option maxRecDepth 100000
namespace RD
open PySem PySem.Spec PyProof.Rows L2

theorem b_tuple : bootBuiltins "tuple" = some (.type "tuple") := by decide +kernel
theorem b_int : bootBuiltins "int" = some (.type "int") := by decide +kernel
theorem b_list : bootBuiltins "list" = some (.type "list") := by decide +kernel
theorem b_sorted : bootBuiltins "sorted" = some (.builtin "sorted") := by decide +kernel
theorem b_all : bootBuiltins "all" = some (.builtin "all") := by decide +kernel
theorem b_bool : bootBuiltins "bool" = some (.type "bool") := by decide +kernel
theorem b_str : bootBuiltins "str" = some (.type "str") := by decide +kernel
theorem b_isinstance : bootBuiltins "isinstance" = some (.builtin "isinstance") := by decide +kernel

/-- none of these names of Python's own is the program's -/
structure Bl (mg : Str → Option Value) : Prop where
  len : mg "len" = none
  range : mg "range" = none
  enumerate : mg "enumerate" = none
  sorted : mg "sorted" = none
  tuple : mg "tuple" = none
  list : mg "list" = none
  int : mg "int" = none
  dict : mg "dict" = none
  isinstance : mg "isinstance" = none
  all : mg "all" = none
  any : mg "any" = none
  str : mg "str" = none
  bool : mg "bool" = none

theorem gl {X : Cx} {x : Str} (h : X.env.kindOf x = some .globalImplicit) : Gl X x := h
theorem hu30 {k : Nat} {A : Around} (hr : Room k A) : A.units + 30 < cLine := by have := hr.un; omega
/-- a def that only reads, by its name -/
structure DefOk (P : Program) (w : World) (K : PySem.W.Frag) (mg : Str → Option Value) (base : Heap) (k : Nat) (x : Str) (n : Nat) (F : List D → Option D) : Prop where
  ex : ∃ f fd ps, FnOk P w K mg base CX0 k f fd ps (spD K F n) ∧ mg x = some (.ref f) ∧ PySem.W.keepIn K (.ref f) = true ∧ L2.Binds K fd ps []
section
variable {X : Cx} {e : Expr} {es : List Expr} {fl : Rho → Option (List D)} {pos : Pos}
theorem se_callD {k n : Nat} {F : List D → Option D} {x : Str} {p : Pos} (h : DefOk X.prog X.w X.K X.mg X.base k x n F) (hr : Room k X.A) (hg : X.env.kindOf x = some .globalImplicit)
    (hn : (e :: es).length = n) (ha : SA X (e :: es) fl) (hdb : (x == ("__debug__" : Str)) = false := by decide) (he : starEach (e :: es) X.env = (false, eval e X.env) :: starEach es X.env := by rfl)
    (hpl : (backTo pos (starEach es X.env)).any (·.1) = false := by rfl) : SE X (.Call (.Name x p) (e :: es) [] pos) (fun ρ => (fl ρ).bind F) := by
  obtain ⟨f, fd, ps, FO, hm, hk, hb⟩ := h.ex
  exact se_call FO hr hg hm hk hb hn ha hdb he hpl
end
theorem def_mk {P : Program} {w : World} {K : PySem.W.Frag} {mg : Str → Option Value} {base : Heap} {x qual : Str} {st : Stmt} {fa : Addr} {fd : FuncData} {N ps : List Str} {k : Nat} {F : Rho → Option Out} {f : List D → Option D}
    (FF : Fun K x qual st fa fd) (hm : mg x = some (.ref fa)) (hb : L2.Binds K fd ps []) (S : FnScope N ps (defScope st))
    (hbody : ∀ (cdv : Value) (A : Around) (outer : List Env) (s : Shared) (H : Hp), Room k (A.deeper (envOfC qual (defScope st) s.heap.objs.size fa cdv)) → SSs (cxOf CX0 P w K mg base N qual (defScope st) fa cdv A outer s H E0).nox (defBody st) F)
    (hf : ∀ ds d, ds.length = ps.length → f ds = some d → runD N F ds = some d) : DefOk P w K mg base (k + 1) x ps.length f :=
  ⟨fa, fd, ps, fn_mk FF S hbody hf, hm, FF.kp, hb⟩
/-- the block's names differ -/
theorem nd_mask {N nm : List Str} (h : decide (maskN N nm).Nodup = true) : (maskN N nm).Nodup := of_decide_eq_true h
end RD

set_option Elab.async false
set_option maxRecDepth 100000
namespace PySem
open PySem.Spec PyProof.Rows

end PySem

set_option linter.all false
set_option Elab.async false
set_option maxRecDepth 100000
namespace PySem
open PySem.Spec PyProof.Rows
namespace F
end F
section
variable {prog : Program} {w : World} {K : Type} [DecidableEq K] {knd : KeyKind prog w K} {A : Around} {R : Result → Shared → Prop}
end
end PySem

set_option Elab.async false
set_option linter.all false
set_option maxRecDepth 100000
namespace RD
open PySem PySem.Spec PyProof.Rows L2

/-! # dicts of a name's own -/
def keyO : D → Option Key
  | .int i => some (.inl i)
  | .str x => some (.inr x)
  | _ => none
def pairsO : List D → Option (List (Key × D))
  | [] => some []
  | .tup [k, v] :: r => (keyO k).bind fun k' => (pairsO r).map ((k', v) :: ·)
  | _ => none
def putD (kvs : List (Key × D)) (k : Key) (v : D) : List (Key × D) := if (kvs.any fun kv => decide (kv.1 = k)) = true then kvs.map (fun kv => if kv.1 = k then (kv.1, v) else kv) else kvs ++ [(k, v)]
def getD' (kvs : List (Key × D)) (k : Key) : Option D := (kvs.find? fun kv => decide (kv.1 = k)).map (·.2)
def dictD : D → Option (List (Key × D))
  | .tup xs => if xs.length ≤ 1000 then (pairsO xs).map fun ps => ps.foldl (fun acc p => putD acc p.1 p.2) [] else none
  | _ => none

section
variable {K : PySem.W.Frag} {G : Hp}
theorem repK_inv {p : Key × D} {kvs : List (Key × D)} {ws : List (Key × V)} (h : RepK K G (p :: kvs) ws) : ∃ v r, ws = (p.1, v) :: r ∧ Rep K G p.2 v ∧ RepK K G kvs r := by
  obtain ⟨h1, h2⟩ := h
  cases ws with
  | nil => simp at h1
  | cons q ws =>
    obtain ⟨k, v⟩ := q
    simp only [List.map_cons, List.cons.injEq] at h1
    obtain ⟨e1, e2⟩ := h1
    obtain ⟨r1, r2⟩ := Reps.inv h2
    exact ⟨v, ws, by simp [e1], r1, e2, r2⟩
theorem RepK.length {kvs : List (Key × D)} {ws : List (Key × V)} (h : RepK K G kvs ws) : kvs.length = ws.length := by
  have := congrArg List.length h.1
  simpa using this
theorem RepK.any {k : Key} : ∀ {kvs : List (Key × D)} {ws : List (Key × V)}, RepK K G kvs ws → (kvs.any fun kv => decide (kv.1 = k)) = ws.any fun kv => decide (kv.1 = k)
  | [], ws, h => by
    have := h.length
    cases ws with
    | nil => rfl
    | cons _ _ => simp at this
  | p :: kvs, ws, h => by
    obtain ⟨v, r, rfl, _, h2⟩ := repK_inv h
    rw [List.any_cons, List.any_cons, RepK.any h2]
theorem RepK.get {k : Key} : ∀ {kvs : List (Key × D)} {ws : List (Key × V)}, RepK K G kvs ws → (getD' kvs k = none ∧ valV ws k = none) ∨ ∃ d v, getD' kvs k = some d ∧ valV ws k = some v ∧ Rep K G d v
  | [], ws, h => by
    have := h.length
    cases ws with
    | nil => exact .inl ⟨rfl, rfl⟩
    | cons _ _ => simp at this
  | p :: kvs, ws, h => by
    obtain ⟨v', r', rfl, h1, h2⟩ := repK_inv h
    by_cases e : p.1 = k
    · exact .inr ⟨p.2, v', by simp [getD', List.find?_cons, e], valV_pos e, h1⟩
    · rcases RepK.get (k := k) h2 with ⟨a, b⟩ | ⟨d, v, a, b, c⟩
      · exact .inl ⟨by simpa [getD', List.find?_cons, e] using a, by rw [valV_neg e]; exact b⟩
      · exact .inr ⟨d, v, by simpa [getD', List.find?_cons, e] using a, by rw [valV_neg e]; exact b, c⟩
end
section
variable {X : Cx}
variable {a e : Expr} {f : Rho → Option D} {i : Nat} {x : Str} {pos pos' p1 : Pos}
def sSetM (i : Nat) (f : Rho → Option (List (Key × D))) : Rho → Option Out := fun ρ => (f ρ).map fun d => .nx (ρ.set i (.m d))
def sDict (i : Nat) (f : Rho → Option D) : Rho → Option Out := sSetM i fun ρ => (f ρ).bind dictD
/-- {} -/
def sDnew (i : Nat) : Rho → Option Out := sSetM i fun _ => some []
def gM (ρ : Rho) (i : Nat) : Option (List (Key × D)) := match ρ[i]? with
  | some (.m kvs) => some kvs
  | _ => none
def dGet (i : Nat) (f : Rho → Option D) : Rho → Option D := fun ρ => (gM ρ i).bind fun kvs => (f ρ).bind fun d => (keyO d).bind fun k => getD' kvs k
def dIn (neg : Bool) (i : Nat) (f : Rho → Option D) : Rho → Option Bool := fun ρ => (f ρ).bind fun d => (gM ρ i).bind fun kvs => (keyO d).map fun k => if neg then !(getD' kvs k).isSome else (getD' kvs k).isSome
/-- d[k] = v -/
def sDput (i : Nat) (fk f : Rho → Option D) : Rho → Option Out := fun ρ => (f ρ).bind fun d => (gM ρ i).bind fun kvs => (fk ρ).bind fun dk => (keyO dk).bind fun k => if kvs.length < 1000000 then some (.nx (ρ.set i (.m (putD kvs k d)))) else none
end
end RD

set_option Elab.async false
set_option linter.all false
set_option maxRecDepth 100000
namespace RD
open PySem PySem.Spec PyProof.Rows L2
def sWhile (n : Nat) (p : Rho → Option Bool) (F : Rho → Option Out) : Rho → Option Out := fun ρ => whileD p F n ρ

section
variable {X : Cx} {e a b : Expr} {es : List Expr} {f g : Rho → Option D} {fl : Rho → Option (List D)} {p : Rho → Option Bool} {pos : Pos} {o : Expr} {apos cpos pos' : Pos} {x : Str}
end

/-! # sorted(d), d a dict of ints or of texts -/
section
variable {prog : Program} {w : World} {A : Around} {E : Value → Shared → Prop} {s : Shared}
end
section
variable {X : Cx}
variable {e : Expr} {x : Str} {p1 pos : Pos}
end

/-! # isinstance(x, a type of Python's own) -/
def tyD : D → String
  | .non => "NoneType" | .bl _ => "bool" | .int _ => "int" | .str _ => "str" | .tup _ => "tuple" | .lst _ => "list"
def isiB (T : String) (d : D) : Bool := tyD d == T || (tyD d == "bool" && T == "int")
def isiO (T : String) (d : D) : Option D := some (.bl (isiB T d))
def isiT (T : String) : Bool := T == "tuple" || T == "int" || T == "bool" || T == "str" || T == "list"
theorem kit_ty {K : PySem.W.Frag} {T : String} (hT : isiT T = true) (d : D) : PySem.W.kitOne K (.type (tyD d)) (.type T) = some (isiB T d) := by
  have hT' : T = "tuple" ∨ T = "int" ∨ T = "bool" ∨ T = "str" ∨ T = "list" := by simpa [isiT, or_assoc] using hT
  rcases hT' with rfl | rfl | rfl | rfl | rfl <;> cases d <;> first | rfl | kernel_rfl
section
variable {X : Cx} {a : Expr} {f : Rho → Option D} {p1 p2 pos : Pos}
theorem call_isi {T : String} (hT : isiT T = true) : CallR X (.builtin "isinstance") (fun xs H Q => ∃ G d x, xs = [x, .ty T] ∧ Same G H ∧ RepR X.K G H d x ∧ Q (.bl (isiB T d)) H) := by
  intro pins s σ H xs us Q I r h
  obtain ⟨G, d, x, rfl, sm, rx, q⟩ := h
  obtain ⟨u, u2, rfl, r1, r2⟩ := vals2 r
  cases (show u2 = Value.type T from r2)
  have e := kit_ty (K := X.K) hT d
  have fin : ∀ tk, EP X pins σ Q (.bool (isiB T d)) { s with toks := tk } := fun tk => ⟨.bl _, H, I.tok tk, rfl, q⟩
  cases d with
  | non => have := rx.non; subst this; cases (show u = Value.none from r1); exact PySem.W.kia_one PySem.W.kitx_none I.kIn True.intro e (fun z => nomatch z) fin
  | bl b => have := rx.bl; subst this; cases (show u = Value.bool b from r1); exact PySem.W.kia_one PySem.W.kitx_bool I.kIn True.intro e (fun z => nomatch z) fin
  | int i => have := rx.int; subst this; obtain ⟨t, q⟩ := (show ∃ t, u = Value.int i t from r1); cases q; exact PySem.W.kia_one PySem.W.kitx_int I.kIn True.intro e (fun z => nomatch z) fin
  | str i => have := rx.str; subst this; obtain ⟨t, q⟩ := (show ∃ t, u = Value.str i t from r1); cases q; exact PySem.W.kia_one PySem.W.kitx_str I.kIn True.intro e (fun z => nomatch z) fin
  | tup ys =>
    obtain ⟨b, vs, rfl, sq, _⟩ := rx.tup sm
    cases (show u = Value.ref b from r1)
    obtain ⟨its, _, ⟨o, h1, h2, _⟩, _⟩ := I.tuple sq
    exact PySem.W.kia_one PySem.W.kitx_tuple I.kIn ⟨o, h1, h2⟩ e (fun z => nomatch z) fin
  | lst ys =>
    obtain ⟨b, vs, rfl, sq, _⟩ := rx.list sm
    cases (show u = Value.ref b from r1)
    obtain ⟨its, _, ⟨o, n, h1, h2, _⟩, _⟩ := I.list sq
    exact PySem.W.kia_one PySem.W.kitx_list I.kIn ⟨o, h1, h2⟩ e (fun z => nomatch z) fin
theorem se_isi {T : String} {y : Str} (hT : isiT T = true) (hg : Gl X "isinstance") (hm : X.mg "isinstance" = none) (hgT : Gl X y) (hmT : X.mg y = none) (hbT : bootBuiltins y = some (.type T)) (ha : SR X a f)
    (hnT : y ≠ "__name__" := by decide) (hdT : (y == ("__debug__" : Str)) = false := by decide)
    (hs : starEach [a, .Name y p2] X.env = (false, eval a X.env) :: starEach [.Name y p2] X.env := by rfl) (hs2 : starEach [.Name y p2] X.env = (false, eval (.Name y p2) X.env) :: starEach [] X.env := by rfl)
    (hpl : (backTo pos (starEach [.Name y p2] X.env)).any (·.1) = false := by rfl) : SE X (.Call (.Name "isinstance" p1) [a, .Name y p2] [] pos) (b1 f (isiO T)) :=
  weak (pe_callB (call_isi hT) hg hm b_isinstance (pa_cons ha (pa_cons (pe_bltn (v := .ty T) hgT hmT hbT rfl hnT hdT) pa_nil hs2) hs) (by decide) (by decide) hs hpl) fun σ H Q ⟨G, ρ, d, s, er, ef, k⟩ => by
    obtain ⟨d1, e1, ef⟩ := Option.bind_eq_some_iff.mp ef
    cases ef
    exact ⟨G, ρ, d1, s, er, e1, fun v1 G1 H1 t1 r1 => ⟨G1, d1, v1, rfl, t1.s, r1, k _ G1 H1 t1 (rep_bl.mpr rfl)⟩⟩
end
end RD

set_option Elab.async false
set_option linter.all false
set_option maxRecDepth 100000
namespace RD
open PySem PySem.Spec PyProof.Rows L2
/-! # all, any of a list of truths -/
def bools? : List D → Option (List Bool)
  | [] => some []
  | .bl b :: r => (bools? r).map (b :: ·)
  | _ => none
def allO : D → Option D
  | .lst xs => (bools? xs).map fun bs => .bl (bs.all id)
  | _ => none
def anyO : D → Option D
  | .lst xs => (bools? xs).map fun bs => .bl (bs.any id)
  | _ => none
theorem bools_some : ∀ {xs : List D} {bs : List Bool}, bools? xs = some bs → xs = bs.map .bl
  | [], bs, h => by cases h; rfl
  | d :: r, bs, h => by
    cases d with
    | bl b =>
      obtain ⟨js, e, rfl⟩ := Option.map_eq_some_iff.mp h
      rw [List.map_cons, ← bools_some e]
    | _ => cases h
theorem reps_bools {K : PySem.W.Frag} {G : Hp} : ∀ {bs : List Bool} {vs : List V}, Reps K G (bs.map .bl) vs → vs = bs.map V.bl
  | [], vs, h => reps_nil.mp h
  | b :: bs, vs, h => by
    obtain ⟨v, r, rfl, h1, h2⟩ := reps_cons.mp h
    rw [rep_bl.mp h1, reps_bools h2]; rfl
theorem vals_bools : ∀ {bs : List Bool} {us : List Value}, Vals (bs.map V.bl) us → us = bs.map Value.bool
  | [], us, r => by cases r; rfl
  | b :: bs, us, r => by
    cases r with
    | cons r1 r2 => cases (show _ = Value.bool b from r1); rw [vals_bools r2]; rfl
theorem all_range (bs : List Bool) : (List.range bs.length).all (fun i => bs.getD i false) = bs.all id := by
  rw [Bool.eq_iff_iff]
  simp only [List.all_eq_true, List.mem_range]
  constructor
  · intro h b hb
    obtain ⟨i, hi, rfl⟩ := List.mem_iff_getElem.mp hb
    simpa [List.getD, hi] using h i hi
  · intro h i hi
    have := h bs[i] (List.getElem_mem hi)
    simpa [List.getD, hi] using this
section
variable {X : Cx}
theorem walk_bools {pins : List (Addr × Obj)} {σ : L2.St} {H G : Hp} {s : Shared} {xs : List D} {bs : List Bool} {v : V} {u : Value} {A : Around} {E : Value → Shared → Prop} {Q : Bool → Value → Shared → Prop} (hcalm : A.handled = none) (I : Inv X pins σ H s) (sm : Same G H) (r1 : RepR X.K G H (.lst xs) v) (ru : RelV v u) (e : bools? xs = some bs)
    (R : List Bool → Bool) (tr : Nat → Bool) (htr : tr = fun i => bs.getD i false)
    (h : ∀ (I0 : Addr) (fp wr : List Addr) (n : Nat) (P : Nat → Value → Prop) (St : Nat → Heap → Prop) (h2 : Heap), n = bs.length → Walks X.prog X.w A I0 fp wr n P St → St 0 h2 → TruthOf X.prog X.w A P tr → (∀ h' tk, (∀ b o, b ∉ wr → h2.get? b = some o → h'.get? b = some o) → Inv X pins σ H { s with heap := h', toks := tk }) → Q true (.ref I0) { s with heap := h2 }) :
    wpAny (model X.prog X.w) A (pyIter u) (Q true) E s := by
  have e1 := bools_some e
  subst e1
  obtain ⟨a, vs, rfl, q, w⟩ := r1.list sm
  cases ru
  obtain ⟨its, vv, p, hz⟩ := I.list q
  have hv := reps_bools w
  subst hv
  have hu := vals_bools vv
  subst hu
  have hl := p.isList
  have hax : a < s.heap.objs.size := by obtain ⟨_, e, _⟩ := hl; exact Heap.lt_size e
  refine wpAny_pyIter_list hl ?_
  refine h s.heap.objs.size _ _ _ _ _ _ ?_ (Walks.list hcalm s.heap.objs.size a (Nat.ne_of_lt hax) (bs.map Value.bool).toArray) ⟨⟨_, Heap.get?_push_size _ rfl, rfl, rfl⟩, hl.push _⟩ ?_ ?_
  · simp
  · intro i v s' Q' E' hP hQ
    have : ∃ b, bs[i]? = some b ∧ v = .bool b := by
      have hP' : (bs.map Value.bool)[i]? = some v := by simpa only [List.getElem?_toArray] using hP
      rw [List.getElem?_map] at hP'
      obtain ⟨b, h1, h2⟩ := Option.map_eq_some_iff.mp hP'
      exact ⟨b, h1, h2.symm⟩
    obtain ⟨b, hb, rfl⟩ := this
    rw [htr] at hQ
    simp only [List.getD, hb, Option.getD_some] at hQ
    exact wpAny_truthy_bool hQ
  · intro h' tk hk
    refine I.kept (t' := tk) fun b o eb => hk b o ?_ (Heap.get?_push_of_some _ eb)
    intro hm
    have := Heap.lt_size eb
    rw [List.mem_singleton.mp hm] at this
    exact Nat.lt_irrefl _ this
theorem call_allO (hcalm : X.calm = true) : CallR X (.builtin "all") (cR X.K allO) := by
  intro pins s σ H xs us Q I r h
  obtain ⟨G, d1, d, x, rfl, sm, r1, e, k⟩ := h
  obtain ⟨u, rfl, ru⟩ := vals1 r
  cases d1 with
  | lst zs =>
    obtain ⟨bs, e1, rfl⟩ := Option.map_eq_some_iff.mp e
    refine call_all_walk ?_
    refine walk_bools (Q := fun _ => _) (A := X.A.in1) (I.ok.hd hcalm) I sm r1 ru e1 (fun _ => true) _ rfl fun I0 fp wr n P St h2 hn W st ht hk => ?_
    refine ⟨I0, fp, wr, n, P, St, _, rfl, W, st, ht, fun h' tk hh => ?_⟩
    subst hn
    rw [all_range]
    exact ⟨.bl _, H, hk h' tk hh, rfl, k _ G H (Step.refl sm) (rep_bl.mpr rfl)⟩
  | _ => cases e
variable {x : Str} {pos : Pos}
/-- a number that the module's top names -/
theorem se_glob {i : Int} (hm : ∃ t, X.mg x = some (.int i t)) (hg : Gl X x) (hd : (x == ("__debug__" : Str)) = false := by decide) : SE X (.Name x pos) (fun _ => some (.int i)) := by
  obtain ⟨t, hm⟩ := hm
  exact se_const (pe_glob (v := .int i) hg hm ⟨t, rfl⟩ hd) fun _ _ => rep_int.mpr rfl
end

/-! # a text walked sign by sign -/
def Its (x : Str) : It := ⟨fun i _ => i < x.cps.size, fun i H v H' => H' = H ∧ ∃ c, x.cps[i]? = some c ∧ v = .str ⟨#[c]⟩, fun i _ => x.cps.size ≤ i⟩
theorem turn_str {P : Program} {w : World} {K : PySem.W.Frag} {tg : Expr} (ty : String) (hty : ty = "str_ascii_iterator" ∨ ty = "str_iterator") (x : Str) (t : Tok) (it : Addr) : Turn P w K tg (Its x) [it] it (fun i h => h.IsStrIter it ty x t i) where
  mem := by simp
  obj := fun i h st b hb => by
    have e : b = it := by simpa using hb
    subst e
    obtain ⟨o, ho, hc, hd⟩ := st
    exact ⟨o, ho, fun v z => by rw [hd] at z; cases z⟩
  keep := fun i h h' st k => let ⟨o, ho, r⟩ := st; ⟨o, k it (by simp) o ho, r⟩
  item := by
    intro X hP hw hK hc i pins s σ H E I hf st hg
    subst hP hw hK
    have hg' : i < x.cps.size := hg
    obtain ⟨f0, f1, f2, f3, f4, f5⟩ := hf it (by simp)
    rcases hty with rfl | rfl
    · refine wpAny_pyNext_ascii_item st (c := x.cps[i]) (by simp [hg']) fun h' st' sb => ?_
      have I1 : Inv X pins σ H { s with heap := h', toks := s.toks + 1 } := I.turned (t' := s.toks + 1) (fun b o hb e => (sb.2 b hb).trans e) f0 f1 f3 f4 f5
      obtain ⟨o, e, c, d⟩ := id st'
      exact ⟨_, rfl, go_of (s := { s with heap := h', toks := s.toks + 1 }) e c d (by decide) ⟨.str ⟨#[x.cps[i]]⟩, H, I1, ⟨s.toks, rfl⟩, ⟨rfl, _, by simp [hg'], rfl⟩, st', fun b hb => (hf b hb).1⟩⟩
    · refine wpAny_pyNext_wide_item st (c := x.cps[i]) (by simp [hg']) fun h' st' sb => ?_
      have I1 : Inv X pins σ H { s with heap := h', toks := s.toks + 1 } := I.turned (t' := s.toks + 1) (fun b o hb e => (sb.2 b hb).trans e) f0 f1 f3 f4 f5
      obtain ⟨o, e, c, d⟩ := id st'
      exact ⟨_, rfl, go_of (s := { s with heap := h', toks := s.toks + 1 }) e c d (by decide) ⟨.str ⟨#[x.cps[i]]⟩, H, I1, ⟨s.toks, rfl⟩, ⟨rfl, _, by simp [hg'], rfl⟩, st', fun b hb => (hf b hb).1⟩⟩
  done := by
    intro X hP hw hK hc i pins s σ H E I hf st hg
    subst hP hw hK
    have hg' : x.cps.size ≤ i := hg
    obtain ⟨f0, f1, f2, f3, f4, f5⟩ := hf it (by simp)
    rcases hty with rfl | rfl
    · exact wpAny_pyNext_ascii_end (I.ok.hd hc) st (by simp [hg']) fun h' eb => ⟨rfl, I.turned (t' := s.toks) (fun b o hb e => eb b o hb e) f0 f1 f3 f4 f5⟩
    · exact wpAny_pyNext_wide_end (I.ok.hd hc) st (by simp [hg']) fun h' eb => ⟨rfl, I.turned (t' := s.toks) (fun b o hb e => eb b o hb e) f0 f1 f3 f4 f5⟩
  self := fun _ _ _ _ _ st h => by
    rcases hty with rfl | rfl
    · exact wpAny_pyIter_striter_ascii st h
    · exact wpAny_pyIter_striter_wide st h
section
variable {X : Cx} {tg e : Expr} {f : Rho → Option D}
def iStr (te : TE) : TI := fun σ H R => te σ H fun v H1 => ∃ x, v = .str x ∧ R (Its x) H1
theorem pi_str {l : Expr} {tl : TE} (hl : PE X l tl) : PI X tg l (iStr tl) := by
  intro pins s σ H R I h
  refine thn (hl pins s σ H _ I h) fun v s1 ⟨y, H1, I1, r1, q1⟩ => ?_
  obtain ⟨x, rfl, q⟩ := q1
  obtain ⟨t, rfl⟩ := (show ∃ t, v = Value.str x t from r1)
  refine wpAny_pyIter_strU ?_
  refine ⟨s1.heap.objs.size, [s1.heap.objs.size], _, _, H1, rfl, I1.kept (t' := s1.toks) fun b o e => Heap.get?_push_of_some _ e, turn_str (strIterType x) ?_ x t _, ⟨_, Heap.get?_push_size _ rfl, rfl, rfl⟩, fun b hb => ?_, q⟩
  · unfold strIterType; split <;> simp
  · have e : b = s1.heap.objs.size := by simpa using hb
    subst e
    exact I1.fpOk (Nat.le_refl _) (I1.hok.fresh (Nat.le_refl _))
def signs (x : Str) : List D := x.cps.toList.map fun c => D.str ⟨#[c]⟩
theorem it_str {K : PySem.W.Frag} {G : Hp} (x : Str) : Itr' K G (Its x) (signs x) where
  go := fun i H s hi => by show i < x.cps.size; simpa [signs] using hi
  stop := fun i H s hi => by show x.cps.size ≤ i; simpa [signs] using hi
  yld := fun i G1 H v H' s1 s hi y => by
    obtain ⟨rfl, c, e, rfl⟩ := y
    refine ⟨G1, Step.refl s, fun d ed => ?_⟩
    simp only [signs, List.getElem?_map, Array.getElem?_toList, e, Option.map_some, Option.some.injEq] at ed
    subst ed
    exact rep_str.mpr rfl
def asS : D → Option (List D)
  | .str x => some (signs x)
  | _ => none
def iS (f : Rho → Option D) : Rho → Option (List D) := fun ρ => (f ρ).bind asS
theorem si_str (h : SE X e f) : SI X tg e (iS f) := weakI (pi_str h) fun σ H R ⟨G, ρ, ds, s, er, ef, k⟩ => by
  obtain ⟨d, e1, e2⟩ := Option.bind_eq_some_iff.mp ef
  cases d with
  | str x =>
    cases e2
    exact ⟨G, ρ, _, s, er, e1, fun v G' H' t r => ⟨x, rep_str.mp r, k _ G' H' t (it_str x)⟩⟩
  | _ => cases e2
end
/-! # xs * n of a tuple -/
theorem noFill_tuple_mul : fillsNumberSlot (.type "tuple") "mul" = pure false :=
  PySem.fillsNumberSlot_seq (id := "tuple.__mul__") (r := some (.builtin "tuple.__rmul__")) F.slot_tuple_mul.lookup (by decide +kernel) F.slot_tuple_rmul.lookup (by decide +kernel)
theorem repeat_tuple : seqRepeat? (.type "tuple") = pure (some (.builtin "tuple.__mul__")) := by
  unfold seqRepeat?
  rw [PySem.seqSlot_of (T := "tuple") (name := "__mul__") (id := "tuple.__mul__") F.slot_tuple_mul.lookup (by decide +kernel), PySem.seqSlot_of (T := "tuple") (name := "__rmul__") (id := "tuple.__rmul__") F.slot_tuple_rmul.lookup (by decide +kernel)]
  rfl
theorem rmul_tuple (a : Int) (t : Tok) (l : Addr) (items : Array Value) (n : Nat) (sl : Array (Option Value)) :
    Meets (Builtin.«int.__rmul__» ⟨[.int a t, .ref l], []⟩) (fun _ R s => s.heap.get? l = some { cls := .type "tuple", dict := none, data := .seq items n, slots := sl } ∧ R (.ok (.ret Value.notImplemented)) s) :=
  .of_wp fun prog w A R s h => by obtain ⟨hp, g, d, tk, os⟩ := s; obtain ⟨hl, h⟩ := h; wp_walk; exact ⟨_, rfl, h⟩
theorem fold_size (items : Array Value) : ∀ (k : Nat) (acc : Array Value), (List.foldl (fun x1 x2 => x1 ++ x2) acc (List.replicate k items)).size = acc.size + k * items.size
  | 0, acc => by simp
  | k + 1, acc => by rw [List.replicate_succ, List.foldl_cons, fold_size items k, Array.size_append, Nat.succ_mul]; omega
theorem tuple_mul (l : Addr) (items : Array Value) (n : Nat) (sl : Array (Option Value)) (x : Int) (u : Tok) (h1 : items.isEmpty = false) (h2 : 2 ≤ x) (h3 : x ≤ 1000) (h4 : items.size ≤ 1000) :
    Meets (Builtin.«tuple.__mul__» ⟨[.ref l, .int x u], []⟩) (fun _ R s => s.heap.get? l = some { cls := .type "tuple", dict := none, data := .seq items n, slots := sl } ∧ R (.ok (.ret (Value.ref s.heap.objs.size))) { s with heap := s.heap.push { cls := Value.type "tuple", data := Data.seq (List.foldl (fun x1 x2 => x1 ++ x2) #[] (List.replicate x.toNat items)) }, toks := s.toks }) :=
  .of_wp fun prog w A R s h => by
    obtain ⟨hp, g, d, tk, os⟩ := s; obtain ⟨hl, h⟩ := h
    have c1 : ¬ (decide (x < -2 ^ 63) || decide (x ≥ 2 ^ 63)) = true := by simp; omega
    have c2 : ¬ (items.isEmpty || x == 1) = true := by simp [h1]; omega
    have c3 : ¬ (decide (x ≤ 0) || items.isEmpty) = true := by simp [h1]; omega
    have c4 : ¬ (items.size : Int) * x > (2 ^ 63 - 1) / 8 := by
      have a1 : (items.size : Int) * x ≤ 1000 * x := Int.mul_le_mul_of_nonneg_right (by omega) (by omega)
      omega
    have c5 : ¬ Builtin.Tuple.tupleTooMany ((items.size : Int) * x) = true := by
      have a1 : (items.size : Int) * x ≤ 1000 * x := Int.mul_le_mul_of_nonneg_right (by omega) (by omega)
      have a2 : 0 ≤ (items.size : Int) * x := Int.mul_nonneg (by omega) (by omega)
      simp [Builtin.Tuple.tupleTooMany, sizeLine_eq]
      omega
    wp_walk
    rw [if_neg c1]
    wp_walk
    rw [if_neg c2]
    wp_walk
    rw [if_neg c3]
    wp_walk
    rw [if_neg c4]
    wp_walk
    rw [if_neg (by rw [fold_size, sizeLine_eq]; have : x.toNat * items.size ≤ 1000 * 1000 := Nat.mul_le_mul (by omega) h4; simp; omega)]
    wp_walk
    exact ⟨_, rfl, h⟩
theorem fold_list (items : Array Value) : ∀ (k : Nat) (acc : Array Value), (List.foldl (fun x1 x2 => x1 ++ x2) acc (List.replicate k items)).toList = acc.toList ++ (List.replicate k items.toList).flatten
  | 0, acc => by simp
  | k + 1, acc => by rw [List.replicate_succ, List.foldl_cons, fold_list items k, List.replicate_succ, List.flatten_cons]; simp
section
variable {X : Cx}
/-- xs * n, a tuple, n written -/
def mulT : D → D → Option D
  | .tup xs, .int n => if 1 ≤ xs.length ∧ xs.length ≤ 1000 ∧ 2 ≤ n ∧ n ≤ 1000 then some (.tup (List.replicate n.toNat xs).flatten) else none
  | _, _ => none
theorem vals_rep {vs : List V} {us : List Value} (h : Vals vs us) : ∀ k : Nat, Vals (List.replicate k vs).flatten (List.replicate k us).flatten
  | 0 => .nil
  | k + 1 => by rw [List.replicate_succ, List.flatten_cons, List.replicate_succ, List.flatten_cons]; exact h.append (vals_rep h k)
theorem reps_rep {K : PySem.W.Frag} {G : Hp} {xs : List D} {vs : List V} (h : Reps K G xs vs) : ∀ k : Nat, Reps K G (List.replicate k xs).flatten (List.replicate k vs).flatten
  | 0 => Reps.nil
  | k + 1 => by rw [List.replicate_succ, List.flatten_cons, List.replicate_succ, List.flatten_cons]; exact h.append (reps_rep h k)
theorem op_mulT : OpR X (binaryOp .Mult) (rD X.K mulT) := by
  intro pins s σ H x y u1 u2 Q I r1 r2 h
  obtain ⟨G, dx, dy, d, sm, rx, ry, e, k⟩ := h
  cases dx with
  | tup xs =>
    cases dy with
    | int n =>
      simp only [mulT] at e
      split at e
      · rename_i hc
        obtain ⟨c1, c2, c3, c4⟩ := hc
        cases e
        have hy := ry.int
        subst hy
        obtain ⟨t, rfl⟩ := (show ∃ t, u2 = Value.int n t from r2)
        obtain ⟨a, vs, rfl, q, w⟩ := rx.tup sm
        cases (show u1 = Value.ref a from r1)
        obtain ⟨its, vv, ⟨o, ho, hcl, nn, hd, hdict⟩, hz⟩ := I.tupleN q
        obtain ⟨oc, od, odat, osl⟩ := o
        simp only at hcl hd hdict
        subst hcl hd hdict
        have l1 := w.length
        have l2 := vv.length
        have he : its.toArray.isEmpty = false := by
          cases its with
          | nil => simp at l2; subst l2; simp at l1; subst l1; simp at c1
          | cons _ _ => rfl
        have hn : H s.heap.objs.size = none := I.hok.fresh (Nat.le_refl _)
        refine wpAny_binaryOp_repeat_ref (T := "tuple") (U := "int") (by decide) ⟨_, ho, rfl⟩ (fun s' => typeIs_int s' n t) noFill_tuple_mul F.fills_int_mul F.slot_int_rmul repeat_tuple F.slot_int_index.lookup
          (call_meets F.slot_int_rmul (typeIs_int s n t) F.entry_int_rmul (F.args_int_rmul_2 _ _) (rmul_tuple n t a its.toArray nn osl)
            ⟨ho, rfl, ⟨_, ho, rfl⟩, call_meets F.slot_tuple_mul ⟨_, ho, rfl⟩ F.entry_tuple_mul (F.args_tuple_mul_2 _ _) (tuple_mul a its.toArray nn osl n t he c3 c4 (by rw [List.size_toArray]; omega)) ⟨ho, ?_⟩⟩)
        refine ⟨.ref s.heap.objs.size, upd H s.heap.objs.size (.tup (List.replicate n.toNat vs).flatten), I.laid (t' := s.toks) (fun b ob eb => Heap.get?_push_of_some _ eb) (Nat.le_refl _) ?_, rfl, k _ (upd G s.heap.objs.size (.tup (List.replicate n.toNat vs).flatten)) _ (Step.new sm hn) ?_⟩
        · refine ⟨?_, (List.replicate n.toNat its).flatten, vals_rep vv _, ?_⟩
          · rw [List.length_flatten, List.map_replicate, List.sum_replicate_nat, sizeLine_eq]
            have : n.toNat * vs.length ≤ 1000 * 1000 := Nat.mul_le_mul (by omega) (by omega)
            omega
          · have e1 := fold_list its.toArray n.toNat #[]
            simp only [List.nil_append] at e1
            have e2 : (List.foldl (fun x1 x2 => x1 ++ x2) #[] (List.replicate n.toNat its.toArray)) = (List.replicate n.toNat its).flatten.toArray := by
              apply Array.toList_inj.mp
              rw [e1]
            rw [e2]
            exact IsTupN.new _ _
        · exact rep_tup.mpr ⟨_, _, rfl, SqT.of upd_same, Reps.mono (same_upd (sm.free hn)) _ _ (reps_rep w n.toNat)⟩
      · cases e
    | _ => cases e
  | _ => cases e
end
end RD

set_option Elab.async false
set_option linter.all false
set_option maxRecDepth 100000
namespace LG
open PySem L2 RD
abbrev n_law_cell : List Str := ["_law_script", "_law_k"]
def F_law_cell : Rho → Option Out := (sq (sIf (bB (b2 (fun ρ => rget ρ 1) (b1 (fun ρ => rget ρ 0) lenO) ltO)) (sRet (b2 (fun ρ => rget ρ 0) (fun ρ => rget ρ 1) ixO)) (fun ρ => some (Out.nx ρ))) (sRet (fun _ => some (D.int 0))))
def m_law_cell (ds : List D) : Option D := runD n_law_cell F_law_cell ds
abbrev n_law_mix : List Str := ["_law_cell_here", "_law_prime", "_law_many"]
def F_law_mix : Rho → Option Out := (sRet (b2 (b2 (b2 (fun ρ => rget ρ 0) (fun _ => some (D.int 48271)) mulO) (fun ρ => rget ρ 1) modO) (fun ρ => rget ρ 2) modO))
def m_law_mix (ds : List D) : Option D := runD n_law_mix F_law_mix ds
abbrev n_law_word : List Str := ["_law_cell_here", "_law_j", "_law_letters", "_law_sign", "_law_tail", "_law_at"]
def F_law_word : Rho → Option Out := (sq (sSet 2 (fun _ => some (D.str "abcdefghijklmnopqrstuvwxyz"))) (sq (sSet 3 (b2 (fun ρ => rget ρ 2) (b2 (b2 (fun ρ => ((aCons (fun ρ => vget ρ 0) (aCons (fun _ => some (D.int 9923)) (aCons (fun _ => some (D.int 26)) (fun _ => some [])))) ρ).bind m_law_mix) (b2 (fun _ => some (D.int 9)) (fun ρ => rget ρ 1) mulO) addO) (fun _ => some (D.int 26)) modO) ixO)) (sq (sSet 4 (b1 (fun ρ => ((sComp 1 (iR1 (aCons (fun ρ => ((aCons (fun ρ => vget ρ 0) (aCons (fun _ => some (D.int 9887)) (aCons (fun _ => some (D.int 3)) (fun _ => some [])))) ρ).bind m_law_mix) (fun _ => some []))) (gN 6) (fun _ => some true) (b2 (fun ρ => rget ρ 2) (fun ρ => ((aCons (b2 (fun ρ => rget ρ 0) (b2 (fun _ => some (D.int 3)) (fun ρ => rget ρ 6) mulO) addO) (aCons (fun _ => some (D.int 9941)) (aCons (fun _ => some (D.int 26)) (fun _ => some [])))) ρ).bind m_law_mix) ixO)) ρ).map D.lst) (joinO ""))) (sq (sSet 5 (fun ρ => ((aCons (fun ρ => vget ρ 0) (aCons (fun _ => some (D.int 9883)) (aCons (b2 (b1 (fun ρ => rget ρ 4) lenO) (fun _ => some (D.int 1)) addO) (fun _ => some [])))) ρ).bind m_law_mix)) (sRet (b2 (b2 (b3S (fun ρ => rget ρ 4) (fun _ => some none) (oI (fun ρ => vget ρ 5)) slD) (fun ρ => rget ρ 3) addO) (b3S (fun ρ => rget ρ 4) (oI (fun ρ => vget ρ 5)) (fun _ => some none) slD) addO))))))
def m_law_word (ds : List D) : Option D := runD n_law_word F_law_word ds
abbrev n_law_is_late : List Str := ["_law_cell_here", "_law_many"]
def F_law_is_late : Rho → Option Out := (sRet (vAnd (b2 (b2 (fun ρ => rget ρ 0) (fun _ => some (D.int 4)) modO) (fun _ => some (D.int 2)) eqO) (b2 (fun ρ => rget ρ 1) (fun _ => some (D.int 2)) gtO)))
def m_law_is_late (ds : List D) : Option D := runD n_law_is_late F_law_is_late ds
abbrev n_law_size : List Str := ["_law_cell_here", "_law_many", "_law_rows"]
def F_law_size : Rho → Option Out := (sq (sSet 2 (b2 (b2 (fun ρ => rget ρ 1) (fun _ => some (D.int 2)) subO) (b1 (fun ρ => ((aCons (fun ρ => vget ρ 0) (aCons (fun ρ => vget ρ 1) (fun _ => some []))) ρ).bind m_law_is_late) intO) addO)) (sRet (b2 (b2 (fun _ => some (D.int 1)) (b2 (b2 (fun _ => some (D.int 1)) (fun ρ => ((aCons (fun ρ => vget ρ 0) (aCons (fun _ => some (D.int 9949)) (aCons (fun _ => some (D.int 3)) (fun _ => some [])))) ρ).bind m_law_mix) addO) (fun ρ => rget ρ 2) mulO) addO) (b1 (b2 (fun ρ => ((aCons (fun ρ => vget ρ 0) (aCons (fun _ => some (D.int 9931)) (aCons (fun _ => some (D.int 3)) (fun _ => some [])))) ρ).bind m_law_mix) (fun _ => some (D.int 0)) gtO) intO) addO)))
def m_law_size (ds : List D) : Option D := runD n_law_size F_law_size ds
def B_law_told_late_1 : Rho → Option Out := (sq (sSet 12 (b2 (fun ρ => ((aCons (b2 (b2 (fun ρ => rget ρ 10) (fun ρ => rget ρ 11) addO) (fun _ => some (D.int 1)) addO) (aCons (b2 (fun ρ => rget ρ 1) (fun ρ => rget ρ 8) ixO) (fun _ => some []))) ρ).map D.lst) (b1 (b2 (fun ρ => rget ρ 11) (b2 (fun ρ => rget ρ 7) (fun _ => some (D.int 1)) subO) eqO) intO) ixO)) (sApp 5 (fun ρ => ((aCons (fun _ => some (D.str "tell")) (aCons (b2 (fun ρ => rget ρ 3) (fun _ => some (D.int 0)) ixO) (aCons (b2 (fun ρ => rget ρ 3) (fun ρ => rget ρ 11) ixO) (aCons (fun ρ => ((aCons (fun ρ => ((aCons (fun ρ => vget ρ 9) (aCons (fun ρ => vget ρ 12) (fun _ => some []))) ρ).map D.tup) (fun _ => some [])) ρ).map D.tup) (fun _ => some []))))) ρ).map D.tup)))
def B_law_told_late_2 : Rho → Option Out := (sq (sSet 10 (b2 (b2 (fun ρ => rget ρ 0) (fun _ => some (D.int 1)) addO) (b2 (fun ρ => rget ρ 8) (fun ρ => rget ρ 7) mulO) addO)) (sq (sApp 6 (fun ρ => ((aCons (fun ρ => vget ρ 9) (aCons (fun ρ => vget ρ 10) (fun _ => some []))) ρ).map D.tup)) (sq (sApp 5 (fun ρ => ((aCons (fun _ => some (D.str "tell")) (aCons (fun ρ => vget ρ 2) (aCons (b2 (fun ρ => rget ρ 3) (fun _ => some (D.int 1)) ixO) (aCons (fun ρ => ((aCons (fun ρ => ((aCons (b2 (fun ρ => rget ρ 4) (fun _ => some (D.int 0)) ixO) (aCons (b2 (fun ρ => rget ρ 10) (fun _ => some (D.int 1)) addO) (fun _ => some []))) ρ).map D.tup) (fun _ => some [])) ρ).map D.tup) (fun _ => some []))))) ρ).map D.tup)) (sFor (iR2 (aCons (fun _ => some (D.int 1)) (aCons (fun ρ => vget ρ 7) (fun _ => some [])))) (gN 11) B_law_told_late_1))))
abbrev n_law_told_late : List Str := ["_law_start", "_law_goals", "_law_one", "_law_others", "_law_words", "_law_rows", "_law_choices", "_law_size_here", "_law_j", "_law_word_here", "_law_at", "_law_k", "_law_after"]
def F_law_told_late : Rho → Option Out := (sq (sSetL 5 (fun _ => some [])) (sq (sSetL 6 (fun _ => some [])) (sq (sSet 7 (b1 (fun ρ => rget ρ 3) lenO)) (sq (sFor (iEn (fun ρ => vget ρ 4)) (gT 2 (gCs (gN 8) (gCs (gN 9) gNl))) B_law_told_late_2) (sRet (fun ρ => ((b2F (fun ρ => ((aCons (fun ρ => ((aCons (fun _ => some (D.str "tell")) (aCons (fun ρ => vget ρ 2) (aCons (b2 (fun ρ => rget ρ 3) (fun _ => some (D.int 0)) ixO) (aCons (b1 (fun ρ => rget ρ 6) tupO) (fun _ => some []))))) ρ).map D.tup) (fun _ => some [])) ρ).map D.lst) (fun ρ => rget ρ 5) catL) ρ).map D.lst))))))
def m_law_told_late (ds : List D) : Option D := runD n_law_told_late F_law_told_late ds
def B_law_told_on_1 : Rho → Option Out := (sApp 7 (fun ρ => ((aCons (fun _ => some (D.str "tell")) (aCons (fun ρ => vget ρ 4) (aCons (b2 (fun ρ => rget ρ 5) (b2 (fun ρ => rget ρ 12) (fun _ => some (D.int 1)) addO) ixO) (aCons (fun ρ => ((aCons (fun ρ => ((aCons (fun ρ => vget ρ 10) (aCons (b2 (fun ρ => rget ρ 11) (b2 (fun ρ => rget ρ 12) (fun _ => some (D.int 1)) addO) ixO) (fun _ => some []))) ρ).map D.tup) (fun _ => some [])) ρ).map D.tup) (fun _ => some []))))) ρ).map D.tup))
def B_law_told_on_2 : Rho → Option Out := (sq (sSet 11 (fun ρ => ((b2F (fun ρ => ((sComp 1 (iR1 (aCons (b2 (fun ρ => rget ρ 2) (fun _ => some (D.int 2)) subO) (fun _ => some []))) (gN 13) (fun _ => some true) (b2 (b2 (b2 (fun ρ => rget ρ 1) (fun _ => some (D.int 1)) addO) (b2 (fun ρ => rget ρ 9) (b2 (fun ρ => rget ρ 2) (fun _ => some (D.int 2)) subO) mulO) addO) (fun ρ => rget ρ 13) addO)) ρ).map D.lst) (fun ρ => ((aCons (b2 (fun ρ => rget ρ 3) (fun ρ => rget ρ 9) ixO) (fun _ => some [])) ρ).map D.lst) catL) ρ).map D.lst)) (sq (sApp 8 (fun ρ => ((aCons (fun ρ => vget ρ 10) (aCons (b2 (fun ρ => rget ρ 11) (fun _ => some (D.int 0)) ixO) (fun _ => some []))) ρ).map D.tup)) (sFor (iR1 (aCons (b2 (fun ρ => rget ρ 2) (fun _ => some (D.int 2)) subO) (fun _ => some []))) (gN 12) B_law_told_on_1)))
abbrev n_law_told_on : List Str := ["_law_cell_here", "_law_start", "_law_many", "_law_goals", "_law_one", "_law_others", "_law_words", "_law_rows", "_law_choices", "_law_j", "_law_word_here", "_law_afters", "_law_k"]
def F_law_told_on : Rho → Option Out := (sq (sSet 4 (fun ρ => ((aCons (fun ρ => vget ρ 0) (aCons (fun _ => some (D.int 9929)) (aCons (fun ρ => vget ρ 2) (fun _ => some [])))) ρ).bind m_law_mix)) (sq (sSet 5 fun ρ => ((sComp 1 (iR1 (aCons (b2 (fun ρ => rget ρ 2) (fun _ => some (D.int 1)) subO) (fun _ => some []))) (gN 13) (fun _ => some true) (b2 (b2 (b2 (fun ρ => rget ρ 4) (fun _ => some (D.int 1)) addO) (b2 (b2 (fun ρ => rget ρ 13) (fun ρ => ((aCons (fun ρ => vget ρ 0) (aCons (fun _ => some (D.int 9901)) (aCons (b2 (fun ρ => rget ρ 2) (fun _ => some (D.int 1)) subO) (fun _ => some [])))) ρ).bind m_law_mix) addO) (b2 (fun ρ => rget ρ 2) (fun _ => some (D.int 1)) subO) modO) addO) (fun ρ => rget ρ 2) modO)) ρ).map D.lst) (sq (sSet 6 (fun ρ => ((b1F (fun ρ => ((sComp 1 (iR1 (aCons (b2 (fun _ => some (D.int 1)) (fun ρ => ((aCons (fun ρ => vget ρ 0) (aCons (fun _ => some (D.int 9949)) (aCons (fun _ => some (D.int 3)) (fun _ => some [])))) ρ).bind m_law_mix) addO) (fun _ => some []))) (gN 13) (fun _ => some true) (fun ρ => ((aCons (fun ρ => vget ρ 0) (aCons (fun ρ => vget ρ 13) (fun _ => some []))) ρ).bind m_law_word)) ρ).map D.lst) sortLO) ρ).map D.lst)) (sq (sIf (bTru (fun ρ => ((aCons (fun ρ => vget ρ 0) (aCons (fun ρ => vget ρ 2) (fun _ => some []))) ρ).bind m_law_is_late)) (sRet (fun ρ => ((aCons (fun ρ => vget ρ 1) (aCons (fun ρ => vget ρ 3) (aCons (fun ρ => vget ρ 4) (aCons (fun ρ => vget ρ 5) (aCons (fun ρ => vget ρ 6) (fun _ => some [])))))) ρ).bind m_law_told_late)) (fun ρ => some (Out.nx ρ))) (sq (sSetL 7 (fun _ => some [])) (sq (sSetL 8 (fun _ => some [])) (sq (sFor (iEn (fun ρ => vget ρ 6)) (gT 2 (gCs (gN 9) (gCs (gN 10) gNl))) B_law_told_on_2) (sRet (fun ρ => ((b2F (fun ρ => ((aCons (fun ρ => ((aCons (fun _ => some (D.str "tell")) (aCons (fun ρ => vget ρ 4) (aCons (b2 (fun ρ => rget ρ 5) (fun _ => some (D.int 0)) ixO) (aCons (b1 (fun ρ => rget ρ 8) tupO) (fun _ => some []))))) ρ).map D.tup) (fun _ => some [])) ρ).map D.lst) (fun ρ => rget ρ 7) catL) ρ).map D.lst)))))))))
def m_law_told_on (ds : List D) : Option D := runD n_law_told_on F_law_told_on ds
abbrev n_law_apart_two : List Str := ["_law_cell_here", "_law_here", "_law_many", "_law_goal", "_law_one", "_law_other", "_law_words"]
def F_law_apart_two : Rho → Option Out := (sq (sSet 4 (fun ρ => ((aCons (fun ρ => vget ρ 0) (aCons (fun _ => some (D.int 9871)) (aCons (fun ρ => vget ρ 2) (fun _ => some [])))) ρ).bind m_law_mix)) (sq (sSet 5 (b2 (b2 (b2 (fun ρ => rget ρ 4) (fun _ => some (D.int 1)) addO) (fun ρ => ((aCons (fun ρ => vget ρ 0) (aCons (fun _ => some (D.int 9859)) (aCons (b2 (fun ρ => rget ρ 2) (fun _ => some (D.int 1)) subO) (fun _ => some [])))) ρ).bind m_law_mix) addO) (fun ρ => rget ρ 2) modO)) (sq (sSet 6 (fun ρ => ((b1F (fun ρ => ((aCons (fun ρ => ((aCons (b2 (fun ρ => rget ρ 0) (fun _ => some (D.int 1)) addO) (aCons (fun _ => some (D.int 0)) (fun _ => some []))) ρ).bind m_law_word) (aCons (fun ρ => ((aCons (b2 (fun ρ => rget ρ 0) (fun _ => some (D.int 1)) addO) (aCons (fun _ => some (D.int 1)) (fun _ => some []))) ρ).bind m_law_word) (fun _ => some []))) ρ).map D.lst) sortLO) ρ).map D.lst)) (sq (sIf (bB (b2 (fun ρ => ((aCons (fun ρ => vget ρ 0) (aCons (fun _ => some (D.int 9931)) (aCons (fun _ => some (D.int 3)) (fun _ => some [])))) ρ).bind m_law_mix) (fun _ => some (D.int 1)) eqO)) (sRet (fun ρ => ((aCons (fun _ => some (D.str "tell")) (aCons (fun ρ => vget ρ 4) (aCons (fun ρ => vget ρ 5) (aCons (fun ρ => ((aCons (fun ρ => ((aCons (b2 (fun ρ => rget ρ 6) (fun _ => some (D.int 0)) ixO) (aCons (fun ρ => vget ρ 3) (fun _ => some []))) ρ).map D.tup) (fun _ => some [])) ρ).map D.tup) (fun _ => some []))))) ρ).map D.tup)) (fun ρ => some (Out.nx ρ))) (sRet (fun ρ => ((aCons (fun _ => some (D.str "tell")) (aCons (fun ρ => vget ρ 4) (aCons (fun ρ => vget ρ 5) (aCons (fun ρ => ((aCons (fun ρ => ((aCons (b2 (fun ρ => rget ρ 6) (fun _ => some (D.int 0)) ixO) (aCons (b2 (fun ρ => ((aCons (fun ρ => vget ρ 1) (aCons (fun ρ => vget ρ 3) (fun _ => some []))) ρ).map D.lst) (b2 (fun ρ => rget ρ 0) (fun _ => some (D.int 2)) modO) ixO) (fun _ => some []))) ρ).map D.tup) (aCons (fun ρ => ((aCons (b2 (fun ρ => rget ρ 6) (fun _ => some (D.int 1)) ixO) (aCons (b2 (fun ρ => ((aCons (fun ρ => vget ρ 3) (aCons (fun ρ => vget ρ 1) (fun _ => some []))) ρ).map D.lst) (b2 (fun ρ => rget ρ 0) (fun _ => some (D.int 2)) modO) ixO) (fun _ => some []))) ρ).map D.tup) (fun _ => some []))) ρ).map D.tup) (fun _ => some []))))) ρ).map D.tup))))))
def m_law_apart_two (ds : List D) : Option D := runD n_law_apart_two F_law_apart_two ds
def B_law_dance_1 : Rho → Option Out := (sApp 3 (b2 (b2 (fun ρ => rget ρ 3) (b1 (fun _ => some (D.int 1)) negO) ixO) (fun ρ => ((aCons (fun ρ => vget ρ 4) (aCons (fun ρ => vget ρ 1) (fun _ => some []))) ρ).bind m_law_size) addO))
def B_law_dance_2 : Rho → Option Out := (sq (sSetL 7 (sComp 1 (iR1 (aCons (fun _ => some (D.int 3)) (fun _ => some []))) (gN 9) (fun _ => some true) (b2 (fun ρ => rget ρ 3) (fun ρ => ((aCons (b2 (fun ρ => rget ρ 4) (b2 (fun _ => some (D.int 7)) (fun ρ => rget ρ 9) mulO) addO) (aCons (fun _ => some (D.int 9907)) (aCons (b1 (fun ρ => rget ρ 3) lenO) (fun _ => some [])))) ρ).bind m_law_mix) ixO))) (sq (sSet 8 (b2 (fun ρ => rget ρ 7) (fun _ => some (D.int 0)) ixO)) (sq (sIf (bB (b2 (fun ρ => ((aCons (fun ρ => vget ρ 4) (aCons (fun _ => some (D.int 9931)) (aCons (fun _ => some (D.int 3)) (fun _ => some [])))) ρ).bind m_law_mix) (fun _ => some (D.int 0)) gtO)) (sSetIx 7 (fun _ => some (D.int 0)) (b2 (b2 (fun ρ => rget ρ 3) (b2 (fun ρ => rget ρ 6) (fun _ => some (D.int 1)) addO) ixO) (fun _ => some (D.int 1)) subO)) (fun ρ => some (Out.nx ρ))) (fun ρ => (sq (sSetL 5 (b2F (fun ρ => rget ρ 5) (fun ρ => ((aCons (fun ρ => vget ρ 4) (aCons (b2 (fun ρ => rget ρ 3) (fun ρ => rget ρ 6) ixO) (aCons (fun ρ => vget ρ 1) (aCons (fun ρ => vget ρ 7) (fun _ => some []))))) ρ).bind m_law_told_on) catL)) (sIf (bB (b2 (fun ρ => ((aCons (fun ρ => vget ρ 4) (aCons (fun _ => some (D.int 9931)) (aCons (fun _ => some (D.int 3)) (fun _ => some [])))) ρ).bind m_law_mix) (fun _ => some (D.int 0)) gtO)) (sApp 5 (fun ρ => ((aCons (fun ρ => vget ρ 4) (aCons (b2 (b2 (fun ρ => rget ρ 3) (b2 (fun ρ => rget ρ 6) (fun _ => some (D.int 1)) addO) ixO) (fun _ => some (D.int 1)) subO) (aCons (fun ρ => vget ρ 1) (aCons (fun ρ => vget ρ 8) (fun _ => some []))))) ρ).bind m_law_apart_two)) (fun ρ => some (Out.nx ρ)))) (frz 7 ρ)))))
abbrev n_law_dance : List Str := ["_law_script", "_law_many", "_law_cells", "_law_starts", "_law_cell_here", "_law_places", "_law_k", "_law_goals", "_law_after"]
def F_law_dance : Rho → Option Out := (sq (sSet 1 (b2 (fun _ => some (D.int 2)) (fun ρ => ((aCons (fun ρ => ((aCons (fun ρ => vget ρ 0) (aCons (fun _ => some (D.int 0)) (fun _ => some []))) ρ).bind m_law_cell) (aCons (fun _ => some (D.int 9973)) (aCons (fun _ => some (D.int 3)) (fun _ => some [])))) ρ).bind m_law_mix) addO)) (sq (sSet 2 fun ρ => ((sComp 1 (iR1 (aCons (b2 (fun _ => some (D.int 1)) (fun ρ => ((aCons (fun ρ => ((aCons (fun ρ => vget ρ 0) (aCons (fun _ => some (D.int 0)) (fun _ => some []))) ρ).bind m_law_cell) (aCons (fun _ => some (D.int 9967)) (aCons (fun _ => some (D.int 3)) (fun _ => some [])))) ρ).bind m_law_mix) addO) (fun _ => some []))) (gN 9) (fun _ => some true) (fun ρ => ((aCons (fun ρ => vget ρ 0) (aCons (b2 (fun _ => some (D.int 1)) (fun ρ => rget ρ 9) addO) (fun _ => some []))) ρ).bind m_law_cell)) ρ).map D.lst) (sq (sSetL 3 (aCons (fun _ => some (D.int 0)) (fun _ => some []))) (sq (sFor (iL (fun ρ => vget ρ 2)) (gN 4) B_law_dance_1) (sq (sSetL 5 (fun _ => some [])) (sq (sFor (iEn (fun ρ => vget ρ 2)) (gT 2 (gCs (gN 6) (gCs (gN 4) gNl))) B_law_dance_2) (sRet (fun ρ => ((aCons (fun ρ => vget ρ 1) (aCons (b1 (fun ρ => ((b2F (fun ρ => rget ρ 5) (fun ρ => ((aCons (fun ρ => ((aCons (fun _ => some (D.str "end")) (fun _ => some [])) ρ).map D.tup) (fun _ => some [])) ρ).map D.lst) catL) ρ).map D.lst) tupO) (fun _ => some []))) ρ).map D.tup))))))))
def m_law_dance (ds : List D) : Option D := runD n_law_dance F_law_dance ds
end LG

set_option Elab.async false
set_option linter.all false
set_option maxRecDepth 100000
set_option maxHeartbeats 1000000
namespace LG
open PySem L2 RD
def mix (c p m : Int) : Int := c * 48271 % p % m
theorem mix_nn (c p : Int) {m : Int} (h : 0 < m) : 0 ≤ mix c p m := Int.emod_nonneg _ (by omega)
theorem mix_lt (c p : Int) {m : Int} (h : 0 < m) : mix c p m < m := Int.emod_lt_of_pos _ h
theorem m_mix {c p m : Int} (hp : 0 < p) (hm : 0 < m) : m_law_mix [.int c, .int p, .int m] = some (.int (mix c p m)) := by
  simp only [m_law_mix, F_law_mix, runD, sRet, sq, sIf, bB, b1, b2, b3, b1F, b2F, b3S, vget, rget, gL, gM, vAnd, vOr, vNot, bAnd, bOr, bNot, bTru, truD, asB, asI, oI, aCons, sSet, sSetL, sAsg, gN, gNl, gCs, gT, sFor, forD, sWhile, sComp, compL, iL, iT, iR1, iR2, iEn, enumF, asL, asT, rng, RD.inR, sApp, sSetIx, frz, addO, subO, mulO, modO, fdivO, negO, ixO, atI, ixN, lenO, tupO, lstO, intO, eqO, neO, dep, depL, eqD, eqL, ltO, leO, gtO, geO, isO, isnO, catL, dIn, dGet, sDict, sSetM, sDnew, sDput, allO, anyO, isiO, mulT, iS, asS, slD, slF, cutD, Option.bind_some, Option.bind_none, Option.map_some, Option.map_none, List.getElem?_cons_zero, List.getElem?_cons_succ, List.getElem?_nil, List.set_cons_zero, List.set_cons_succ, List.length_cons, List.length_nil, List.map_cons, List.map_nil, List.cons_append, List.nil_append, List.append_nil, List.replicate_succ, List.replicate_zero, Nat.reduceAdd, Nat.reduceSub, Nat.reduceLeDiff, Nat.reduceLT, if_true, if_false, ite_true, ite_false, true_and, and_true, Bool.false_eq_true, decide_true, decide_false, Bool.not_true, Bool.not_false, List.range_zero, Int.toNat_zero, List.length_map, List.length_append, List.length_replicate, Nat.zero_add, Int.zero_add, reduceIte, reduceCtorEq, Int.reduceLT, Int.reduceLE, Int.reducePow, Int.reduceNeg, Int.reduceMul, Int.reduceAdd, Int.reduceSub, Int.reduceToNat, true_or, or_true, and_self, or_self, Bool.and_self, Bool.true_and, Bool.and_true, Bool.true_or, Bool.or_true, Bool.false_and, Bool.false_or, Nat.reduceMul, Nat.reducePow, Int.reduceEq, Nat.reduceEqDiff, Int.natCast_zero, Int.cast_ofNat_Int, Int.ofNat_eq_natCast, hp, hm, mix]
theorem ints_at {ns : List Int} {k : Int} (h0 : 0 ≤ k) (h : k < ns.length) : atI (ns.map D.int) k = some (.int (ns.getD k.toNat 0)) := by
  have h2 : k.toNat < ns.length := by omega
  simp [atI, ixN, h0, h, h2]
theorem m_cell {ns : List Int} {k : Int} (h0 : 0 ≤ k) : m_law_cell [.lst (ns.map D.int), .int k] = some (.int (ns.getD k.toNat 0)) := by
  by_cases h : k < ns.length
  · simp only [m_law_cell, F_law_cell, runD, sRet, sq, sIf, bB, b1, b2, b3, b1F, b2F, b3S, vget, rget, gL, gM, vAnd, vOr, vNot, bAnd, bOr, bNot, bTru, truD, asB, asI, oI, aCons, sSet, sSetL, sAsg, gN, gNl, gCs, gT, sFor, forD, sWhile, sComp, compL, iL, iT, iR1, iR2, iEn, enumF, asL, asT, rng, RD.inR, sApp, sSetIx, frz, addO, subO, mulO, modO, fdivO, negO, ixO, lenO, tupO, lstO, intO, eqO, neO, dep, depL, eqD, eqL, ltO, leO, gtO, geO, isO, isnO, catL, dIn, dGet, sDict, sSetM, sDnew, sDput, allO, anyO, isiO, mulT, iS, asS, slD, slF, cutD, Option.bind_some, Option.bind_none, Option.map_some, Option.map_none, List.getElem?_cons_zero, List.getElem?_cons_succ, List.getElem?_nil, List.set_cons_zero, List.set_cons_succ, List.length_cons, List.length_nil, List.map_cons, List.map_nil, List.cons_append, List.nil_append, List.append_nil, List.replicate_succ, List.replicate_zero, Nat.reduceAdd, Nat.reduceSub, Nat.reduceLeDiff, Nat.reduceLT, if_true, if_false, ite_true, ite_false, true_and, and_true, Bool.false_eq_true, decide_true, decide_false, Bool.not_true, Bool.not_false, List.range_zero, Int.toNat_zero, List.length_map, List.length_append, List.length_replicate, Nat.zero_add, Int.zero_add, reduceIte, reduceCtorEq, Int.reduceLT, Int.reduceLE, Int.reducePow, Int.reduceNeg, Int.reduceMul, Int.reduceAdd, Int.reduceSub, Int.reduceToNat, true_or, or_true, and_self, or_self, Bool.and_self, Bool.true_and, Bool.and_true, Bool.true_or, Bool.or_true, Bool.false_and, Bool.false_or, Nat.reduceMul, Nat.reducePow, Int.reduceEq, Nat.reduceEqDiff, Int.natCast_zero, Int.cast_ofNat_Int, Int.ofNat_eq_natCast, h, ints_at h0 h]
  · have h2 : ns.getD k.toNat 0 = 0 := by
      have : ns[k.toNat]? = none := by simp; omega
      simp [List.getD, this]
    simp only [m_law_cell, F_law_cell, runD, sRet, sq, sIf, bB, b1, b2, b3, b1F, b2F, b3S, vget, rget, gL, gM, vAnd, vOr, vNot, bAnd, bOr, bNot, bTru, truD, asB, asI, oI, aCons, sSet, sSetL, sAsg, gN, gNl, gCs, gT, sFor, forD, sWhile, sComp, compL, iL, iT, iR1, iR2, iEn, enumF, asL, asT, rng, RD.inR, sApp, sSetIx, frz, addO, subO, mulO, modO, fdivO, negO, ixO, lenO, tupO, lstO, intO, eqO, neO, dep, depL, eqD, eqL, ltO, leO, gtO, geO, isO, isnO, catL, dIn, dGet, sDict, sSetM, sDnew, sDput, allO, anyO, isiO, mulT, iS, asS, slD, slF, cutD, Option.bind_some, Option.bind_none, Option.map_some, Option.map_none, List.getElem?_cons_zero, List.getElem?_cons_succ, List.getElem?_nil, List.set_cons_zero, List.set_cons_succ, List.length_cons, List.length_nil, List.map_cons, List.map_nil, List.cons_append, List.nil_append, List.append_nil, List.replicate_succ, List.replicate_zero, Nat.reduceAdd, Nat.reduceSub, Nat.reduceLeDiff, Nat.reduceLT, if_true, if_false, ite_true, ite_false, true_and, and_true, Bool.false_eq_true, decide_true, decide_false, Bool.not_true, Bool.not_false, List.range_zero, Int.toNat_zero, List.length_map, List.length_append, List.length_replicate, Nat.zero_add, Int.zero_add, reduceIte, reduceCtorEq, Int.reduceLT, Int.reduceLE, Int.reducePow, Int.reduceNeg, Int.reduceMul, Int.reduceAdd, Int.reduceSub, Int.reduceToNat, true_or, or_true, and_self, or_self, Bool.and_self, Bool.true_and, Bool.and_true, Bool.true_or, Bool.or_true, Bool.false_and, Bool.false_or, Nat.reduceMul, Nat.reducePow, Int.reduceEq, Nat.reduceEqDiff, Int.natCast_zero, Int.cast_ofNat_Int, Int.ofNat_eq_natCast, h, h2]
def late (c m : Int) : Bool := decide (c % 4 = 2) && decide (2 < m)
theorem m_late {c m : Int} : m_law_is_late [.int c, .int m] = some (.bl (late c m)) := by
  by_cases e : c % 4 = 2
  · simp [m_law_is_late, F_law_is_late, runD, sRet, b2, rget, modO, vAnd, eqO, dep, eqD, asB, gtO, e, late]
  · simp [m_law_is_late, F_law_is_late, runD, sRet, b2, rget, modO, vAnd, eqO, dep, eqD, asB, gtO, e, late]
/-! words -/
def lc (k : Int) : Nat := (97 + k).toNat
theorem letters {i : Int} (h0 : 0 ≤ i) (h1 : i < 26) : atI (Str.ofString "abcdefghijklmnopqrstuvwxyz").cps.toList i = some (lc i) := by
  have : i = 0 ∨ i = 1 ∨ i = 2 ∨ i = 3 ∨ i = 4 ∨ i = 5 ∨ i = 6 ∨ i = 7 ∨ i = 8 ∨ i = 9 ∨ i = 10 ∨ i = 11 ∨ i = 12 ∨ i = 13 ∨ i = 14 ∨ i = 15 ∨ i = 16 ∨ i = 17 ∨ i = 18 ∨ i = 19 ∨ i = 20 ∨ i = 21 ∨ i = 22 ∨ i = 23 ∨ i = 24 ∨ i = 25 := by omega
  rcases this with rfl | rfl | rfl | rfl | rfl | rfl | rfl | rfl | rfl | rfl | rfl | rfl | rfl | rfl | rfl | rfl | rfl | rfl | rfl | rfl | rfl | rfl | rfl | rfl | rfl | rfl <;> decide +kernel
theorem letters_len : (Str.ofString "abcdefghijklmnopqrstuvwxyz").length ≤ 1000000 := by decide +kernel
theorem letter_at {i : Int} (h0 : 0 ≤ i) (h1 : i < 26) : ixO (.str (Str.ofString "abcdefghijklmnopqrstuvwxyz")) (.int i) = some (.str ⟨#[lc i]⟩) := by
  simp only [ixO, letters_len, if_true, letters h0 h1, Option.map_some]
theorem lc_ok {i : Int} (h0 : 0 ≤ i) (h1 : i < 26) : 97 ≤ lc i ∧ lc i ≤ 122 := by unfold lc; omega
def sg (c j : Int) : Nat := lc ((mix c 9923 26 + 9 * j) % 26)
theorem sg_ok (c j : Int) : 97 ≤ sg c j ∧ sg c j ≤ 122 := lc_ok (Int.emod_nonneg _ (by decide)) (Int.emod_lt_of_pos _ (by decide))
theorem emp : (Str.ofString "") = ⟨#[]⟩ := by decide +kernel
theorem pick (l : List Nat) : ∀ (k i : Nat), i + k ≤ l.length → ((List.range k).map (fun m => i + m)).filterMap (fun j => l.toArray[j]?) = (l.drop i).take k
  | 0, i, _ => by simp
  | k + 1, i, h => by
    have hi : i < l.length := by omega
    have e : (List.range (k + 1)).map (fun m => i + m) = i :: (List.range k).map (fun m => i + 1 + m) := by
      rw [List.range_succ_eq_map, List.map_cons, List.map_map]
      congr 1
      apply List.map_congr_left
      intro a _
      simp only [Function.comp]
      omega
    rw [e, List.filterMap_cons, pick l k (i + 1) (by omega)]
    have e2 : l.toArray[i]? = some l[i] := by simp [hi]
    rw [e2, List.drop_eq_getElem_cons hi, List.take_succ_cons]
theorem range_ids (a : Int) (n i : Nat) (h : a = (i : Int)) : (List.range n).map (fun (k : Nat) => (a + 1 * (k : Int)).toNat) = (List.range n).map (fun m => i + m) := by
  apply List.map_congr_left
  intro k _
  subst h
  omega
theorem slice_take (l : List Nat) (n : Nat) (h : n ≤ l.length) : Txt.slice ⟨l.toArray⟩ none (some (n : Int)) = ⟨(l.take n).toArray⟩ := by
  have e1 : Builtin.Str.strSliceIndices none (some (n : Int)) 1 l.length = (List.range n).map (fun m => 0 + m) := by
    unfold Builtin.Str.strSliceIndices sliceRange
    have h1 : (1 : Int) > 0 := by decide
    have h2 : ¬ ((n : Int) < 0) := by omega
    have h3 : max 0 (min (n : Int) (l.length : Int)) = (n : Int) := by omega
    simp only [h1, if_true, h2, if_false, h3]
    have h4 : (if (0 : Int) < (n : Int) then ((n : Int) - 0 + 1 - 1) / 1 else 0).toNat = n := by
      split
      · rw [Int.ediv_one]; omega
      · omega
    rw [h4]
    exact range_ids 0 n 0 rfl
  unfold Txt.slice
  have e0 : (⟨l.toArray⟩ : Str).length = l.length := by simp [Str.length]
  rw [e0, e1]
  split
  · rename_i q
    have : n = l.length := by simpa using q
    subst this
    rw [List.take_length]
  · have := pick l n 0 (by omega)
    rw [List.drop_zero] at this
    exact congrArg (fun x => (⟨x.toArray⟩ : Str)) this
theorem slice_drop (l : List Nat) (n : Nat) (h : n ≤ l.length) : Txt.slice ⟨l.toArray⟩ (some (n : Int)) none = ⟨(l.drop n).toArray⟩ := by
  have e1 : Builtin.Str.strSliceIndices (some (n : Int)) none 1 l.length = (List.range (l.length - n)).map (fun m => n + m) := by
    unfold Builtin.Str.strSliceIndices sliceRange
    have h1 : (1 : Int) > 0 := by decide
    have h2 : ¬ ((n : Int) < 0) := by omega
    have h3 : max 0 (min (n : Int) (l.length : Int)) = (n : Int) := by omega
    simp only [h1, if_true, h2, if_false, h3]
    have h4 : (if (n : Int) < (l.length : Int) then ((l.length : Int) - (n : Int) + 1 - 1) / 1 else 0).toNat = l.length - n := by
      split
      · rw [Int.ediv_one]; omega
      · omega
    rw [h4]
    exact range_ids (n : Int) _ n rfl
  unfold Txt.slice
  have e0 : (⟨l.toArray⟩ : Str).length = l.length := by simp [Str.length]
  rw [e0, e1]
  split
  · rename_i q
    have : n = 0 := by
      have q' : l.length - n = l.length := by simpa using q
      cases l with
      | nil => simpa using h
      | cons _ _ => simp at q'; omega
    subst this
    rfl
  · have := pick l (l.length - n) n (by omega)
    have e3 : (l.drop n).take (l.length - n) = l.drop n := by
      rw [← List.length_drop]; exact List.take_length
    rw [e3] at this
    exact congrArg (fun x => (⟨x.toArray⟩ : Str)) this
theorem str_app (a b : List Nat) : (⟨a.toArray⟩ : Str) ++ (⟨b.toArray⟩ : Str) = ⟨(a ++ b).toArray⟩ := by
  show Str.append _ _ = _
  simp [Str.append]
theorem str_len (a : List Nat) : (⟨a.toArray⟩ : Str).length = a.length := by simp [Str.length]
theorem one_len (A : Nat) : (⟨#[A]⟩ : Str).length = 1 := rfl
theorem emp_len : (⟨#[]⟩ : Str).length = 0 := rfl
theorem one_list (A : Nat) : (⟨#[A]⟩ : Str) = ⟨[A].toArray⟩ := rfl
/-- the end of a word, its tail known -/
theorem word_end (T : List Nat) (hT : T.length ≤ 2) (c : Int) (s : Nat) : ∃ n : Nat, n ≤ T.length ∧ mix c 9883 ((T.length : Int) + 1) = (n : Int) := by
  have h1 := mix_nn c 9883 (m := (T.length : Int) + 1) (by omega)
  have h2 := mix_lt c 9883 (m := (T.length : Int) + 1) (by omega)
  exact ⟨(mix c 9883 ((T.length : Int) + 1)).toNat, by omega, by omega⟩
theorem word_ex (c : Int) : ∃ pre post : List Nat, (∀ x ∈ pre ++ post, 97 ≤ x ∧ x ≤ 122) ∧ pre.length + post.length ≤ 2 ∧ ∀ j : Int, m_law_word [.int c, .int j] = some (.str ⟨(pre ++ sg c j :: post).toArray⟩) := by
  have h1 := mix_nn c 9887 (m := 3) (by decide)
  have h2 := mix_lt c 9887 (m := 3) (by decide)
  have g0 := letter_at (mix_nn (c + 0) 9941 (m := 26) (by decide)) (mix_lt (c + 0) 9941 (m := 26) (by decide))
  have g1 := letter_at (mix_nn (c + 3) 9941 (m := 26) (by decide)) (mix_lt (c + 3) 9941 (m := 26) (by decide))
  have o0 := lc_ok (mix_nn (c + 0) 9941 (m := 26) (by decide)) (mix_lt (c + 0) 9941 (m := 26) (by decide))
  have o1 := lc_ok (mix_nn (c + 3) 9941 (m := 26) (by decide)) (mix_lt (c + 3) 9941 (m := 26) (by decide))
  have hs : ∀ j : Int, ixO (.str (Str.ofString "abcdefghijklmnopqrstuvwxyz")) (.int ((mix c 9923 26 + 9 * j) % 26)) = some (.str ⟨#[sg c j]⟩) := fun j => letter_at (Int.emod_nonneg _ (by decide)) (Int.emod_lt_of_pos _ (by decide))
  generalize hA : lc (mix (c + 0) 9941 26) = A at g0 o0
  generalize hB : lc (mix (c + 3) 9941 26) = B at g1 o1
  have cs : mix c 9887 3 = 0 ∨ mix c 9887 3 = 1 ∨ mix c 9887 3 = 2 := by omega
  rcases cs with e | e | e
  · obtain ⟨n, hn, en⟩ := word_end [] (by simp) c 0
    have e1 := slice_take [] n hn
    have e2 := slice_drop [] n hn
    have q1 : ([] : List Nat).length ≤ 2 := by simp
    generalize hT : ([] : List Nat) = T at hn en e1 e2 q1
    have hj : Txt.join ⟨#[]⟩ [] = ⟨T.toArray⟩ := by rw [← hT]; rfl
    have q2 : T.length ≤ 1000000 := by omega
    have q3 : (0 : Int) < (T.length : Int) + 1 := by omega
    have l1 : (T.take n).length ≤ 999999 := by simp; omega
    have l2 : (T.take n).length + 1 + (T.drop n).length ≤ 1000000 := by simp; omega
    refine ⟨T.take n, T.drop n, ?_, by simp; omega, fun j => ?_⟩
    · rw [List.take_append_drop]; subst hT; simp [o0, o1]
    have r2 : List.range 2 = [0, 1] := rfl
    have tl : ∀ i : Nat, i < 3 → i ≤ 1000000 := fun i _ => by omega
    have m3 : ∀ z : Int, z * 3 = 3 * z := fun z => Int.mul_comm _ _
    simp (config := { decide := true }) only [m_law_word, F_law_word, runD, sRet, sq, sIf, bB, b1, b2, b3, b1F, b2F, b3S, vget, rget, gL, gM, vAnd, vOr, vNot, bAnd, bOr, bNot, bTru, truD, asB, asI, oI, aCons, sSet, sSetL, sAsg, gN, gNl, gCs, gT, sFor, forD, sWhile, sComp, compL, iL, iT, iR1, iR2, iEn, enumF, asL, asT, rng, RD.inR, sApp, sSetIx, frz, addO, subO, mulO, modO, fdivO, negO, lenO, tupO, lstO, intO, eqO, neO, dep, depL, eqD, eqL, ltO, leO, gtO, geO, isO, isnO, catL, dIn, dGet, sDict, sSetM, sDnew, sDput, allO, anyO, isiO, mulT, iS, asS, slD, slF, cutD, Option.bind_some, Option.bind_none, Option.map_some, Option.map_none, List.getElem?_cons_zero, List.getElem?_cons_succ, List.getElem?_nil, List.set_cons_zero, List.set_cons_succ, List.length_cons, List.length_nil, List.map_cons, List.map_nil, List.cons_append, List.nil_append, List.append_nil, List.replicate_succ, List.replicate_zero, Nat.reduceAdd, Nat.reduceSub, Nat.reduceLeDiff, Nat.reduceLT, if_true, if_false, ite_true, ite_false, true_and, and_true, Bool.false_eq_true, decide_true, decide_false, Bool.not_true, Bool.not_false, List.range_zero, Int.toNat_zero, List.length_map, List.length_append, List.length_replicate, Nat.zero_add, Int.zero_add, reduceIte, reduceCtorEq, Int.reduceLT, Int.reduceLE, Int.reducePow, Int.reduceNeg, Int.reduceMul, Int.reduceAdd, Int.reduceSub, Int.reduceToNat, true_or, or_true, and_self, or_self, Bool.and_self, Bool.true_and, Bool.and_true, Bool.true_or, Bool.or_true, Bool.false_and, Bool.false_or, Nat.reduceMul, Nat.reducePow, Int.reduceEq, Nat.reduceEqDiff, Int.natCast_zero, Int.cast_ofNat_Int, Int.ofNat_eq_natCast, m_mix, e, hs, List.range_zero, List.range_one, r2, joinO, strs?, emp, hj, one_len, emp_len, List.sum_cons, List.sum_nil, Int.toNat_one, Int.natCast_one, str_len, en, e1, e2, one_list, str_app, q2, q3, l1, l2, List.length_singleton, List.append_assoc]
  · obtain ⟨n, hn, en⟩ := word_end [A] (by simp) c 0
    have e1 := slice_take [A] n hn
    have e2 := slice_drop [A] n hn
    have q1 : ([A] : List Nat).length ≤ 2 := by simp
    generalize hT : ([A] : List Nat) = T at hn en e1 e2 q1
    have hj : Txt.join ⟨#[]⟩ [⟨#[A]⟩] = ⟨T.toArray⟩ := by rw [← hT]; rfl
    have q2 : T.length ≤ 1000000 := by omega
    have q3 : (0 : Int) < (T.length : Int) + 1 := by omega
    have l1 : (T.take n).length ≤ 999999 := by simp; omega
    have l2 : (T.take n).length + 1 + (T.drop n).length ≤ 1000000 := by simp; omega
    refine ⟨T.take n, T.drop n, ?_, by simp; omega, fun j => ?_⟩
    · rw [List.take_append_drop]; subst hT; simp [o0, o1]
    have r2 : List.range 2 = [0, 1] := rfl
    have tl : ∀ i : Nat, i < 3 → i ≤ 1000000 := fun i _ => by omega
    have m3 : ∀ z : Int, z * 3 = 3 * z := fun z => Int.mul_comm _ _
    simp (config := { decide := true }) only [m_law_word, F_law_word, runD, sRet, sq, sIf, bB, b1, b2, b3, b1F, b2F, b3S, vget, rget, gL, gM, vAnd, vOr, vNot, bAnd, bOr, bNot, bTru, truD, asB, asI, oI, aCons, sSet, sSetL, sAsg, gN, gNl, gCs, gT, sFor, forD, sWhile, sComp, compL, iL, iT, iR1, iR2, iEn, enumF, asL, asT, rng, RD.inR, sApp, sSetIx, frz, addO, subO, mulO, modO, fdivO, negO, lenO, tupO, lstO, intO, eqO, neO, dep, depL, eqD, eqL, ltO, leO, gtO, geO, isO, isnO, catL, dIn, dGet, sDict, sSetM, sDnew, sDput, allO, anyO, isiO, mulT, iS, asS, slD, slF, cutD, Option.bind_some, Option.bind_none, Option.map_some, Option.map_none, List.getElem?_cons_zero, List.getElem?_cons_succ, List.getElem?_nil, List.set_cons_zero, List.set_cons_succ, List.length_cons, List.length_nil, List.map_cons, List.map_nil, List.cons_append, List.nil_append, List.append_nil, List.replicate_succ, List.replicate_zero, Nat.reduceAdd, Nat.reduceSub, Nat.reduceLeDiff, Nat.reduceLT, if_true, if_false, ite_true, ite_false, true_and, and_true, Bool.false_eq_true, decide_true, decide_false, Bool.not_true, Bool.not_false, List.range_zero, Int.toNat_zero, List.length_map, List.length_append, List.length_replicate, Nat.zero_add, Int.zero_add, reduceIte, reduceCtorEq, Int.reduceLT, Int.reduceLE, Int.reducePow, Int.reduceNeg, Int.reduceMul, Int.reduceAdd, Int.reduceSub, Int.reduceToNat, true_or, or_true, and_self, or_self, Bool.and_self, Bool.true_and, Bool.and_true, Bool.true_or, Bool.or_true, Bool.false_and, Bool.false_or, Nat.reduceMul, Nat.reducePow, Int.reduceEq, Nat.reduceEqDiff, Int.natCast_zero, Int.cast_ofNat_Int, Int.ofNat_eq_natCast, m_mix, e, hs, List.range_zero, List.range_one, r2, joinO, strs?, emp, hj, one_len, emp_len, List.sum_cons, List.sum_nil, Int.toNat_one, Int.natCast_one, g0, str_len, en, e1, e2, one_list, str_app, q2, q3, l1, l2, List.length_singleton, List.append_assoc]
  · obtain ⟨n, hn, en⟩ := word_end [A, B] (by simp) c 0
    have e1 := slice_take [A, B] n hn
    have e2 := slice_drop [A, B] n hn
    have q1 : ([A, B] : List Nat).length ≤ 2 := by simp
    generalize hT : ([A, B] : List Nat) = T at hn en e1 e2 q1
    have hj : Txt.join ⟨#[]⟩ [⟨#[A]⟩, ⟨#[B]⟩] = ⟨T.toArray⟩ := by rw [← hT]; rfl
    have q2 : T.length ≤ 1000000 := by omega
    have q3 : (0 : Int) < (T.length : Int) + 1 := by omega
    have l1 : (T.take n).length ≤ 999999 := by simp; omega
    have l2 : (T.take n).length + 1 + (T.drop n).length ≤ 1000000 := by simp; omega
    refine ⟨T.take n, T.drop n, ?_, by simp; omega, fun j => ?_⟩
    · rw [List.take_append_drop]; subst hT; simp [o0, o1]
    have r2 : List.range 2 = [0, 1] := rfl
    have tl : ∀ i : Nat, i < 3 → i ≤ 1000000 := fun i _ => by omega
    have m3 : ∀ z : Int, z * 3 = 3 * z := fun z => Int.mul_comm _ _
    simp (config := { decide := true }) only [m_law_word, F_law_word, runD, sRet, sq, sIf, bB, b1, b2, b3, b1F, b2F, b3S, vget, rget, gL, gM, vAnd, vOr, vNot, bAnd, bOr, bNot, bTru, truD, asB, asI, oI, aCons, sSet, sSetL, sAsg, gN, gNl, gCs, gT, sFor, forD, sWhile, sComp, compL, iL, iT, iR1, iR2, iEn, enumF, asL, asT, rng, RD.inR, sApp, sSetIx, frz, addO, subO, mulO, modO, fdivO, negO, lenO, tupO, lstO, intO, eqO, neO, dep, depL, eqD, eqL, ltO, leO, gtO, geO, isO, isnO, catL, dIn, dGet, sDict, sSetM, sDnew, sDput, allO, anyO, isiO, mulT, iS, asS, slD, slF, cutD, Option.bind_some, Option.bind_none, Option.map_some, Option.map_none, List.getElem?_cons_zero, List.getElem?_cons_succ, List.getElem?_nil, List.set_cons_zero, List.set_cons_succ, List.length_cons, List.length_nil, List.map_cons, List.map_nil, List.cons_append, List.nil_append, List.append_nil, List.replicate_succ, List.replicate_zero, Nat.reduceAdd, Nat.reduceSub, Nat.reduceLeDiff, Nat.reduceLT, if_true, if_false, ite_true, ite_false, true_and, and_true, Bool.false_eq_true, decide_true, decide_false, Bool.not_true, Bool.not_false, List.range_zero, Int.toNat_zero, List.length_map, List.length_append, List.length_replicate, Nat.zero_add, Int.zero_add, reduceIte, reduceCtorEq, Int.reduceLT, Int.reduceLE, Int.reducePow, Int.reduceNeg, Int.reduceMul, Int.reduceAdd, Int.reduceSub, Int.reduceToNat, true_or, or_true, and_self, or_self, Bool.and_self, Bool.true_and, Bool.and_true, Bool.true_or, Bool.or_true, Bool.false_and, Bool.false_or, Nat.reduceMul, Nat.reducePow, Int.reduceEq, Nat.reduceEqDiff, Int.natCast_zero, Int.cast_ofNat_Int, Int.ofNat_eq_natCast, m_mix, e, hs, List.range_zero, List.range_one, r2, joinO, strs?, emp, hj, one_len, emp_len, List.sum_cons, List.sum_nil, Int.toNat_one, Int.natCast_one, g0, g1, str_len, en, e1, e2, one_list, str_app, q2, q3, l1, l2, List.length_singleton, List.append_assoc]
end LG

set_option Elab.async false
set_option linter.all false
set_option maxRecDepth 100000
set_option maxHeartbeats 2000000
namespace LG
open PySem L2 RD
/-! sorted texts -/
def Lt (a b : Str) : Prop := ltS a b = true
theorem Lt.def {a b : Str} : Lt a b ↔ a.cps.toList < b.cps.toList := by simp [Lt, ltS]
theorem str_ext {a b : Str} (h : a.cps.toList = b.cps.toList) : a = b := by
  cases a; cases b; simp only [Str.mk.injEq]; exact Array.toList_inj.mp h
theorem Lt.trans {a b c : Str} (h : Lt a b) (k : Lt b c) : Lt a c := by
  rw [Lt.def] at *; exact List.lt_trans h k
theorem Lt.irrefl {a : Str} : ¬ Lt a a := by rw [Lt.def]; exact List.lt_irrefl _
theorem Lt.total {a b : Str} (h : ¬ Lt b a) (n : a ≠ b) : Lt a b := by
  rw [Lt.def] at *
  rcases List.le_total (l₁ := a.cps.toList) (l₂ := b.cps.toList) with q | q
  · rcases Classical.em (a.cps.toList < b.cps.toList) with z | z
    · exact z
    · exact absurd (str_ext (List.le_antisymm q (List.not_lt.mp z))) n
  · exact absurd (str_ext (List.le_antisymm (List.not_lt.mp h) q)) n
theorem Lt.ne {a b : Str} (h : Lt a b) : a ≠ b := fun e => by subst e; exact Lt.irrefl h
abbrev Rising (l : List Str) : Prop := l.Pairwise Lt
theorem mem_insS {x y : Str} : ∀ {l : List Str}, y ∈ insS x l ↔ y = x ∨ y ∈ l
  | [] => by simp [insS]
  | z :: l => by
    simp only [insS]
    split
    · simp only [List.mem_cons, mem_insS (l := l)]
      constructor
      · rintro (h | h | h) <;> simp [h]
      · rintro (h | h | h) <;> simp [h]
    · simp
theorem insS_rising {x : Str} : ∀ {l : List Str}, Rising l → (∀ y ∈ l, x ≠ y) → Rising (insS x l)
  | [], _, _ => by simp [insS]
  | z :: l, h, n => by
    obtain ⟨h1, h2⟩ := List.pairwise_cons.mp h
    simp only [insS]
    split
    · rename_i q
      refine List.pairwise_cons.mpr ⟨fun y hy => ?_, insS_rising h2 fun y hy => n y (List.mem_cons_of_mem _ hy)⟩
      rcases mem_insS.mp hy with rfl | hy
      · exact q
      · exact h1 y hy
    · rename_i q
      have hz : Lt x z := Lt.total (by simpa [Lt] using q) (n z List.mem_cons_self)
      exact List.pairwise_cons.mpr ⟨fun y hy => by
        rcases List.mem_cons.mp hy with rfl | hy
        · exact hz
        · exact hz.trans (h1 y hy), h⟩
theorem mem_sortS {y : Str} : ∀ {l : List Str}, y ∈ sortS l ↔ y ∈ l
  | [] => by simp [sortS]
  | x :: l => by simp only [sortS, mem_insS, mem_sortS (l := l), List.mem_cons]
theorem len_insS {x : Str} : ∀ {l : List Str}, (insS x l).length = l.length + 1
  | [] => rfl
  | z :: l => by simp only [insS]; split <;> simp [len_insS (l := l)]
theorem len_sortS : ∀ {l : List Str}, (sortS l).length = l.length
  | [] => rfl
  | x :: l => by simp only [sortS, len_insS, len_sortS (l := l), List.length_cons]
theorem sortS_rising : ∀ {l : List Str}, l.Nodup → Rising (sortS l)
  | [], _ => by simp [sortS]
  | x :: l, h => by
    obtain ⟨h1, h2⟩ := List.nodup_cons.mp h
    exact insS_rising (sortS_rising h2) fun y hy e => h1 (by subst e; exact mem_sortS.mp hy)
theorem strs_map (l : List Str) : RD.strs? (l.map D.str) = some l := by
  induction l with
  | nil => rfl
  | cons x xs ih => simp [RD.strs?, ih]
theorem sort_strs {l : List Str} (h : l.length < 64) : sortLO (.lst (l.map D.str)) = some ((sortS l).map D.str) := by
  cases l with
  | nil => rfl
  | cons x xs =>
    have e := strs_map (x :: xs)
    simp only [List.map_cons] at e
    simp only [sortLO, sortO, lstO, Option.bind_some, List.map_cons, List.length_cons, List.length_map, ints?]
    rw [if_pos (by simpa using h), e]
    simp
/-! words of a round -/
def okW (w : Str) : Prop := 1 ≤ w.length ∧ w.length ≤ 3 ∧ ∀ x ∈ w.cps.toList, 97 ≤ x ∧ x ≤ 122
theorem len3 {α : Type} {l : List α} (h : l.length = 3) : ∃ a b c, l = [a, b, c] := by
  match l, h with
  | [a, b, c], _ => exact ⟨a, b, c, rfl⟩
theorem len2 {α : Type} {l : List α} (h : l.length = 2) : ∃ a b, l = [a, b] := by
  match l, h with
  | [a, b], _ => exact ⟨a, b, rfl⟩
theorem len1 {α : Type} {l : List α} (h : l.length = 1) : ∃ a, l = [a] := by
  match l, h with
  | [a], _ => exact ⟨a, rfl⟩
/-- the words of a cell: three different ones -/
theorem words_ex (c : Int) : ∃ W : Int → Str, (∀ j, okW (W j)) ∧ (∀ j, m_law_word [.int c, .int j] = some (.str (W j))) ∧ W 0 ≠ W 1 ∧ W 0 ≠ W 2 ∧ W 1 ≠ W 2 := by
  obtain ⟨pre, post, h1, h2, h3⟩ := word_ex c
  have inj : ∀ i j : Int, sg c i ≠ sg c j → (⟨(pre ++ sg c i :: post).toArray⟩ : Str) ≠ ⟨(pre ++ sg c j :: post).toArray⟩ := fun i j n e => by
    have e2 := congrArg (fun s : Str => s.cps.toList) e
    simp at e2
    exact n e2
  have b0 := mix_nn c 9923 (m := 26) (by decide)
  have b1 := mix_lt c 9923 (m := 26) (by decide)
  have nn : ∀ j : Int, 0 ≤ (mix c 9923 26 + 9 * j) % 26 := fun j => Int.emod_nonneg _ (by decide)
  refine ⟨fun j => ⟨(pre ++ sg c j :: post).toArray⟩, fun j => ⟨by simp [Str.length]; omega, by simp [Str.length]; omega, fun x hx => ?_⟩, h3, inj 0 1 ?_, inj 0 2 ?_, inj 1 2 ?_⟩
  · simp at hx
    rcases hx with hx | rfl | hx
    · exact h1 x (by simp [hx])
    · exact sg_ok c j
    · exact h1 x (by simp [hx])
  all_goals (unfold sg lc; have := nn 0; have := nn 1; have := nn 2; omega)
/-! places -/
inductive Pl where
  | fin | tell (a b : Int) (ch : List (Str × Int))
def chD (p : Str × Int) : D := .tup [.str p.1, .int p.2]
def plD : Pl → D
  | .fin => .tup [.str "end"]
  | .tell a b ch => .tup [.str "tell", .int a, .int b, .tup (ch.map chD)]
structure okT (m : Int) (P : Int → Prop) (a b : Int) (ch : List (Str × Int)) : Prop where
  a0 : 0 ≤ a
  a1 : a < m
  b0 : 0 ≤ b
  b1 : b < m
  ne : a ≠ b
  l0 : 1 ≤ ch.length
  l1 : ch.length ≤ 3
  rs : Rising (ch.map (·.1))
  wd : ∀ p ∈ ch, okW p.1
  nx : ∀ p ∈ ch, P p.2
def okP (m : Int) (P : Int → Prop) : Pl → Prop
  | .fin => True
  | .tell a b ch => okT m P a b ch
theorem okP.mono {m : Int} {P Q : Int → Prop} (h : ∀ n, P n → Q n) : ∀ {p : Pl}, okP m P p → okP m Q p
  | .fin, _ => trivial
  | .tell a b ch, k => ⟨k.a0, k.a1, k.b0, k.b1, k.ne, k.l0, k.l1, k.rs, k.wd, fun p hp => h _ (k.nx p hp)⟩
def Good (m : Int) (P : Int → Prop) (ds : List D) : Prop := ∃ ps : List Pl, ds = ps.map plD ∧ ∀ p ∈ ps, okP m P p ∧ p ≠ .fin
theorem Good.nil {m : Int} {P : Int → Prop} : Good m P [] := ⟨[], rfl, by simp⟩
theorem Good.app {m : Int} {P : Int → Prop} {xs ys : List D} (h : Good m P xs) (k : Good m P ys) : Good m P (xs ++ ys) := by
  obtain ⟨p, rfl, h⟩ := h
  obtain ⟨q, rfl, k⟩ := k
  refine ⟨p ++ q, by simp, fun x hx => ?_⟩
  rcases List.mem_append.mp hx with hx | hx
  · exact h x hx
  · exact k x hx
theorem Good.mono {m : Int} {P Q : Int → Prop} {ds : List D} (h : Good m P ds) (k : ∀ n, P n → Q n) : Good m Q ds := by
  obtain ⟨ps, e, h⟩ := h
  exact ⟨ps, e, fun p hp => ⟨(h p hp).1.mono k, (h p hp).2⟩⟩
theorem Good.cons {m : Int} {P : Int → Prop} {ds : List D} (p : Pl) (hp : okP m P p) (h : Good m P ds) (hf : p ≠ .fin := by simp) : Good m P (plD p :: ds) := by
  obtain ⟨ps, rfl, h⟩ := h
  exact ⟨p :: ps, rfl, fun q hq => by
    rcases List.mem_cons.mp hq with rfl | hq
    · exact ⟨hp, hf⟩
    · exact h q hq⟩
theorem Good.t1 {m : Int} {P : Int → Prop} {ds : List D} {a b : Int} {w : Str} {n : Int} (h1 : 0 ≤ a ∧ a < m) (h2 : 0 ≤ b ∧ b < m) (h3 : a ≠ b) (hw : okW w) (hn : P n) (h : Good m P ds) :
    Good m P (.tup [.str "tell", .int a, .int b, .tup [.tup [.str w, .int n]]] :: ds) :=
  Good.cons (.tell a b [(w, n)]) ⟨h1.1, h1.2, h2.1, h2.2, h3, by simp, by simp, by simp, by simpa using hw, by simpa using hn⟩ h
theorem Good.t2 {m : Int} {P : Int → Prop} {ds : List D} {a b : Int} {w w' : Str} {n n' : Int} (h1 : 0 ≤ a ∧ a < m) (h2 : 0 ≤ b ∧ b < m) (h3 : a ≠ b) (hr : Rising [w, w']) (hw : okW w) (hw' : okW w') (hn : P n) (hn' : P n') (h : Good m P ds) :
    Good m P (.tup [.str "tell", .int a, .int b, .tup [.tup [.str w, .int n], .tup [.str w', .int n']]] :: ds) :=
  Good.cons (.tell a b [(w, n), (w', n')]) ⟨h1.1, h1.2, h2.1, h2.2, h3, by simp, by simp, hr, by simp [hw, hw'], by simp [hn, hn']⟩ h
theorem Good.t3 {m : Int} {P : Int → Prop} {ds : List D} {a b : Int} {w w' w'' : Str} {n n' n'' : Int} (h1 : 0 ≤ a ∧ a < m) (h2 : 0 ≤ b ∧ b < m) (h3 : a ≠ b) (hr : Rising [w, w', w'']) (hw : okW w) (hw' : okW w') (hw'' : okW w'') (hn : P n) (hn' : P n') (hn'' : P n'') (h : Good m P ds) :
    Good m P (.tup [.str "tell", .int a, .int b, .tup [.tup [.str w, .int n], .tup [.str w', .int n'], .tup [.str w'', .int n'']]] :: ds) :=
  Good.cons (.tell a b [(w, n), (w', n'), (w'', n'')]) ⟨h1.1, h1.2, h2.1, h2.2, h3, by simp, by simp, hr, by simp [hw, hw', hw''], by simp [hn, hn', hn'']⟩ h
end LG

set_option Elab.async false
set_option linter.all false
set_option maxRecDepth 100000
set_option maxHeartbeats 4000000
namespace LG
open PySem L2 RD
theorem r2 : List.range 2 = [0, 1] := rfl
theorem r3 : List.range 3 = [0, 1, 2] := rfl
theorem late_1_2 {st g0 g1 g2 one o0 o1 : Int} {w0 : Str} (hr : Rising [w0]) (hw0 : okW w0) (h1 : 0 ≤ one ∧ one < 3) (q0 : 0 ≤ o0 ∧ o0 < 3) (q1 : 0 ≤ o1 ∧ o1 < 3) (n1 : one ≠ o0) (n2 : one ≠ o1) (n3 : o0 ≠ o1)  :
    ∃ ds, m_law_told_late [.int st, .lst [.int g0, .int g1, .int g2], .int one, .lst [.int o0, .int o1], .lst [.str w0]] = some (.lst ds) ∧ ds.length = 3 ∧ Good 3 (fun n => (st < n ∧ n < st + 3) ∨ n = g0 ∨ n = g1 ∨ n = g2) ds := by
  refine' ⟨_, ?h, ?l, ?g⟩
  case h =>
    simp (config := { decide := true }) only [m_law_told_late, F_law_told_late, B_law_told_late_1, B_law_told_late_2, runD, sRet, sq, sIf, bB, b1, b2, b3, b1F, b2F, b3S, vget, rget, gL, gM, vAnd, vOr, vNot, bAnd, bOr, bNot, bTru, truD, asB, asI, oI, aCons, sSet, sSetL, sAsg, gN, gNl, gCs, gT, sFor, forD, sWhile, sComp, compL, iL, iT, iR1, iR2, iEn, enumF, asL, asT, rng, RD.inR, sApp, sSetIx, frz, addO, subO, mulO, modO, fdivO, negO, ixO, atI, ixN, lenO, tupO, lstO, intO, eqO, neO, dep, depL, eqD, eqL, ltO, leO, gtO, geO, isO, isnO, catL, dIn, dGet, sDict, sSetM, sDnew, sDput, allO, anyO, isiO, mulT, iS, asS, slD, slF, cutD, Option.bind_some, Option.bind_none, Option.map_some, Option.map_none, List.getElem?_cons_zero, List.getElem?_cons_succ, List.getElem?_nil, List.set_cons_zero, List.set_cons_succ, List.length_cons, List.length_nil, List.map_cons, List.map_nil, List.cons_append, List.nil_append, List.append_nil, List.replicate_succ, List.replicate_zero, Nat.reduceAdd, Nat.reduceSub, Nat.reduceLeDiff, Nat.reduceLT, if_true, if_false, ite_true, ite_false, true_and, and_true, Bool.false_eq_true, decide_true, decide_false, Bool.not_true, Bool.not_false, List.range_zero, Int.toNat_zero, List.length_map, List.length_append, List.length_replicate, Nat.zero_add, Int.zero_add, reduceIte, reduceCtorEq, Int.reduceLT, Int.reduceLE, Int.reducePow, Int.reduceNeg, Int.reduceMul, Int.reduceAdd, Int.reduceSub, Int.reduceToNat, true_or, or_true, and_self, or_self, Bool.and_self, Bool.true_and, Bool.and_true, Bool.true_or, Bool.or_true, Bool.false_and, Bool.false_or, Nat.reduceMul, Nat.reducePow, Int.reduceEq, Nat.reduceEqDiff, Int.natCast_zero, Int.cast_ofNat_Int, Int.ofNat_eq_natCast, Int.natCast_one, r2, r3, List.range_one, Int.toNat_one]
    rfl
  case l => rfl
  case g =>
    refine Good.t1 h1 q0 n1 hw0 (by omega) ?_
    refine Good.t1 h1 q1 n2 hw0 (by omega) ?_
    refine Good.t1 q0 q1 n3 hw0 (by omega) ?_
    exact Good.nil
theorem late_1_3 {st g0 g1 g2 one o0 o1 o2 : Int} {w0 : Str} (hr : Rising [w0]) (hw0 : okW w0) (h1 : 0 ≤ one ∧ one < 4) (q0 : 0 ≤ o0 ∧ o0 < 4) (q1 : 0 ≤ o1 ∧ o1 < 4) (q2 : 0 ≤ o2 ∧ o2 < 4) (n1 : one ≠ o0) (n2 : one ≠ o1) (n3 : o0 ≠ o1) (n4 : o0 ≠ o2) :
    ∃ ds, m_law_told_late [.int st, .lst [.int g0, .int g1, .int g2], .int one, .lst [.int o0, .int o1, .int o2], .lst [.str w0]] = some (.lst ds) ∧ ds.length = 4 ∧ Good 4 (fun n => (st < n ∧ n < st + 4) ∨ n = g0 ∨ n = g1 ∨ n = g2) ds := by
  refine' ⟨_, ?h, ?l, ?g⟩
  case h =>
    simp (config := { decide := true }) only [m_law_told_late, F_law_told_late, B_law_told_late_1, B_law_told_late_2, runD, sRet, sq, sIf, bB, b1, b2, b3, b1F, b2F, b3S, vget, rget, gL, gM, vAnd, vOr, vNot, bAnd, bOr, bNot, bTru, truD, asB, asI, oI, aCons, sSet, sSetL, sAsg, gN, gNl, gCs, gT, sFor, forD, sWhile, sComp, compL, iL, iT, iR1, iR2, iEn, enumF, asL, asT, rng, RD.inR, sApp, sSetIx, frz, addO, subO, mulO, modO, fdivO, negO, ixO, atI, ixN, lenO, tupO, lstO, intO, eqO, neO, dep, depL, eqD, eqL, ltO, leO, gtO, geO, isO, isnO, catL, dIn, dGet, sDict, sSetM, sDnew, sDput, allO, anyO, isiO, mulT, iS, asS, slD, slF, cutD, Option.bind_some, Option.bind_none, Option.map_some, Option.map_none, List.getElem?_cons_zero, List.getElem?_cons_succ, List.getElem?_nil, List.set_cons_zero, List.set_cons_succ, List.length_cons, List.length_nil, List.map_cons, List.map_nil, List.cons_append, List.nil_append, List.append_nil, List.replicate_succ, List.replicate_zero, Nat.reduceAdd, Nat.reduceSub, Nat.reduceLeDiff, Nat.reduceLT, if_true, if_false, ite_true, ite_false, true_and, and_true, Bool.false_eq_true, decide_true, decide_false, Bool.not_true, Bool.not_false, List.range_zero, Int.toNat_zero, List.length_map, List.length_append, List.length_replicate, Nat.zero_add, Int.zero_add, reduceIte, reduceCtorEq, Int.reduceLT, Int.reduceLE, Int.reducePow, Int.reduceNeg, Int.reduceMul, Int.reduceAdd, Int.reduceSub, Int.reduceToNat, true_or, or_true, and_self, or_self, Bool.and_self, Bool.true_and, Bool.and_true, Bool.true_or, Bool.or_true, Bool.false_and, Bool.false_or, Nat.reduceMul, Nat.reducePow, Int.reduceEq, Nat.reduceEqDiff, Int.natCast_zero, Int.cast_ofNat_Int, Int.ofNat_eq_natCast, Int.natCast_one, r2, r3, List.range_one, Int.toNat_one]
    rfl
  case l => rfl
  case g =>
    refine Good.t1 h1 q0 n1 hw0 (by omega) ?_
    refine Good.t1 h1 q1 n2 hw0 (by omega) ?_
    refine Good.t1 q0 q1 n3 hw0 (by omega) ?_
    refine Good.t1 q0 q2 n4 hw0 (by omega) ?_
    exact Good.nil
theorem late_2_2 {st g0 g1 g2 one o0 o1 : Int} {w0 w1 : Str} (hr : Rising [w0, w1]) (hw0 : okW w0) (hw1 : okW w1) (h1 : 0 ≤ one ∧ one < 3) (q0 : 0 ≤ o0 ∧ o0 < 3) (q1 : 0 ≤ o1 ∧ o1 < 3) (n1 : one ≠ o0) (n2 : one ≠ o1) (n3 : o0 ≠ o1)  :
    ∃ ds, m_law_told_late [.int st, .lst [.int g0, .int g1, .int g2], .int one, .lst [.int o0, .int o1], .lst [.str w0, .str w1]] = some (.lst ds) ∧ ds.length = 5 ∧ Good 3 (fun n => (st < n ∧ n < st + 5) ∨ n = g0 ∨ n = g1 ∨ n = g2) ds := by
  refine' ⟨_, ?h, ?l, ?g⟩
  case h =>
    simp (config := { decide := true }) only [m_law_told_late, F_law_told_late, B_law_told_late_1, B_law_told_late_2, runD, sRet, sq, sIf, bB, b1, b2, b3, b1F, b2F, b3S, vget, rget, gL, gM, vAnd, vOr, vNot, bAnd, bOr, bNot, bTru, truD, asB, asI, oI, aCons, sSet, sSetL, sAsg, gN, gNl, gCs, gT, sFor, forD, sWhile, sComp, compL, iL, iT, iR1, iR2, iEn, enumF, asL, asT, rng, RD.inR, sApp, sSetIx, frz, addO, subO, mulO, modO, fdivO, negO, ixO, atI, ixN, lenO, tupO, lstO, intO, eqO, neO, dep, depL, eqD, eqL, ltO, leO, gtO, geO, isO, isnO, catL, dIn, dGet, sDict, sSetM, sDnew, sDput, allO, anyO, isiO, mulT, iS, asS, slD, slF, cutD, Option.bind_some, Option.bind_none, Option.map_some, Option.map_none, List.getElem?_cons_zero, List.getElem?_cons_succ, List.getElem?_nil, List.set_cons_zero, List.set_cons_succ, List.length_cons, List.length_nil, List.map_cons, List.map_nil, List.cons_append, List.nil_append, List.append_nil, List.replicate_succ, List.replicate_zero, Nat.reduceAdd, Nat.reduceSub, Nat.reduceLeDiff, Nat.reduceLT, if_true, if_false, ite_true, ite_false, true_and, and_true, Bool.false_eq_true, decide_true, decide_false, Bool.not_true, Bool.not_false, List.range_zero, Int.toNat_zero, List.length_map, List.length_append, List.length_replicate, Nat.zero_add, Int.zero_add, reduceIte, reduceCtorEq, Int.reduceLT, Int.reduceLE, Int.reducePow, Int.reduceNeg, Int.reduceMul, Int.reduceAdd, Int.reduceSub, Int.reduceToNat, true_or, or_true, and_self, or_self, Bool.and_self, Bool.true_and, Bool.and_true, Bool.true_or, Bool.or_true, Bool.false_and, Bool.false_or, Nat.reduceMul, Nat.reducePow, Int.reduceEq, Nat.reduceEqDiff, Int.natCast_zero, Int.cast_ofNat_Int, Int.ofNat_eq_natCast, Int.natCast_one, r2, r3, List.range_one, Int.toNat_one]
    rfl
  case l => rfl
  case g =>
    refine Good.t2 h1 q0 n1 hr hw0 hw1 (by omega) (by omega) ?_
    refine Good.t1 h1 q1 n2 hw0 (by omega) ?_
    refine Good.t1 q0 q1 n3 hw0 (by omega) ?_
    refine Good.t1 h1 q1 n2 hw0 (by omega) ?_
    refine Good.t1 q0 q1 n3 hw1 (by omega) ?_
    exact Good.nil
theorem late_2_3 {st g0 g1 g2 one o0 o1 o2 : Int} {w0 w1 : Str} (hr : Rising [w0, w1]) (hw0 : okW w0) (hw1 : okW w1) (h1 : 0 ≤ one ∧ one < 4) (q0 : 0 ≤ o0 ∧ o0 < 4) (q1 : 0 ≤ o1 ∧ o1 < 4) (q2 : 0 ≤ o2 ∧ o2 < 4) (n1 : one ≠ o0) (n2 : one ≠ o1) (n3 : o0 ≠ o1) (n4 : o0 ≠ o2) :
    ∃ ds, m_law_told_late [.int st, .lst [.int g0, .int g1, .int g2], .int one, .lst [.int o0, .int o1, .int o2], .lst [.str w0, .str w1]] = some (.lst ds) ∧ ds.length = 7 ∧ Good 4 (fun n => (st < n ∧ n < st + 7) ∨ n = g0 ∨ n = g1 ∨ n = g2) ds := by
  refine' ⟨_, ?h, ?l, ?g⟩
  case h =>
    simp (config := { decide := true }) only [m_law_told_late, F_law_told_late, B_law_told_late_1, B_law_told_late_2, runD, sRet, sq, sIf, bB, b1, b2, b3, b1F, b2F, b3S, vget, rget, gL, gM, vAnd, vOr, vNot, bAnd, bOr, bNot, bTru, truD, asB, asI, oI, aCons, sSet, sSetL, sAsg, gN, gNl, gCs, gT, sFor, forD, sWhile, sComp, compL, iL, iT, iR1, iR2, iEn, enumF, asL, asT, rng, RD.inR, sApp, sSetIx, frz, addO, subO, mulO, modO, fdivO, negO, ixO, atI, ixN, lenO, tupO, lstO, intO, eqO, neO, dep, depL, eqD, eqL, ltO, leO, gtO, geO, isO, isnO, catL, dIn, dGet, sDict, sSetM, sDnew, sDput, allO, anyO, isiO, mulT, iS, asS, slD, slF, cutD, Option.bind_some, Option.bind_none, Option.map_some, Option.map_none, List.getElem?_cons_zero, List.getElem?_cons_succ, List.getElem?_nil, List.set_cons_zero, List.set_cons_succ, List.length_cons, List.length_nil, List.map_cons, List.map_nil, List.cons_append, List.nil_append, List.append_nil, List.replicate_succ, List.replicate_zero, Nat.reduceAdd, Nat.reduceSub, Nat.reduceLeDiff, Nat.reduceLT, if_true, if_false, ite_true, ite_false, true_and, and_true, Bool.false_eq_true, decide_true, decide_false, Bool.not_true, Bool.not_false, List.range_zero, Int.toNat_zero, List.length_map, List.length_append, List.length_replicate, Nat.zero_add, Int.zero_add, reduceIte, reduceCtorEq, Int.reduceLT, Int.reduceLE, Int.reducePow, Int.reduceNeg, Int.reduceMul, Int.reduceAdd, Int.reduceSub, Int.reduceToNat, true_or, or_true, and_self, or_self, Bool.and_self, Bool.true_and, Bool.and_true, Bool.true_or, Bool.or_true, Bool.false_and, Bool.false_or, Nat.reduceMul, Nat.reducePow, Int.reduceEq, Nat.reduceEqDiff, Int.natCast_zero, Int.cast_ofNat_Int, Int.ofNat_eq_natCast, Int.natCast_one, r2, r3, List.range_one, Int.toNat_one]
    rfl
  case l => rfl
  case g =>
    refine Good.t2 h1 q0 n1 hr hw0 hw1 (by omega) (by omega) ?_
    refine Good.t1 h1 q1 n2 hw0 (by omega) ?_
    refine Good.t1 q0 q1 n3 hw0 (by omega) ?_
    refine Good.t1 q0 q2 n4 hw0 (by omega) ?_
    refine Good.t1 h1 q1 n2 hw0 (by omega) ?_
    refine Good.t1 q0 q1 n3 hw1 (by omega) ?_
    refine Good.t1 q0 q2 n4 hw1 (by omega) ?_
    exact Good.nil
theorem late_3_2 {st g0 g1 g2 one o0 o1 : Int} {w0 w1 w2 : Str} (hr : Rising [w0, w1, w2]) (hw0 : okW w0) (hw1 : okW w1) (hw2 : okW w2) (h1 : 0 ≤ one ∧ one < 3) (q0 : 0 ≤ o0 ∧ o0 < 3) (q1 : 0 ≤ o1 ∧ o1 < 3) (n1 : one ≠ o0) (n2 : one ≠ o1) (n3 : o0 ≠ o1)  :
    ∃ ds, m_law_told_late [.int st, .lst [.int g0, .int g1, .int g2], .int one, .lst [.int o0, .int o1], .lst [.str w0, .str w1, .str w2]] = some (.lst ds) ∧ ds.length = 7 ∧ Good 3 (fun n => (st < n ∧ n < st + 7) ∨ n = g0 ∨ n = g1 ∨ n = g2) ds := by
  refine' ⟨_, ?h, ?l, ?g⟩
  case h =>
    simp (config := { decide := true }) only [m_law_told_late, F_law_told_late, B_law_told_late_1, B_law_told_late_2, runD, sRet, sq, sIf, bB, b1, b2, b3, b1F, b2F, b3S, vget, rget, gL, gM, vAnd, vOr, vNot, bAnd, bOr, bNot, bTru, truD, asB, asI, oI, aCons, sSet, sSetL, sAsg, gN, gNl, gCs, gT, sFor, forD, sWhile, sComp, compL, iL, iT, iR1, iR2, iEn, enumF, asL, asT, rng, RD.inR, sApp, sSetIx, frz, addO, subO, mulO, modO, fdivO, negO, ixO, atI, ixN, lenO, tupO, lstO, intO, eqO, neO, dep, depL, eqD, eqL, ltO, leO, gtO, geO, isO, isnO, catL, dIn, dGet, sDict, sSetM, sDnew, sDput, allO, anyO, isiO, mulT, iS, asS, slD, slF, cutD, Option.bind_some, Option.bind_none, Option.map_some, Option.map_none, List.getElem?_cons_zero, List.getElem?_cons_succ, List.getElem?_nil, List.set_cons_zero, List.set_cons_succ, List.length_cons, List.length_nil, List.map_cons, List.map_nil, List.cons_append, List.nil_append, List.append_nil, List.replicate_succ, List.replicate_zero, Nat.reduceAdd, Nat.reduceSub, Nat.reduceLeDiff, Nat.reduceLT, if_true, if_false, ite_true, ite_false, true_and, and_true, Bool.false_eq_true, decide_true, decide_false, Bool.not_true, Bool.not_false, List.range_zero, Int.toNat_zero, List.length_map, List.length_append, List.length_replicate, Nat.zero_add, Int.zero_add, reduceIte, reduceCtorEq, Int.reduceLT, Int.reduceLE, Int.reducePow, Int.reduceNeg, Int.reduceMul, Int.reduceAdd, Int.reduceSub, Int.reduceToNat, true_or, or_true, and_self, or_self, Bool.and_self, Bool.true_and, Bool.and_true, Bool.true_or, Bool.or_true, Bool.false_and, Bool.false_or, Nat.reduceMul, Nat.reducePow, Int.reduceEq, Nat.reduceEqDiff, Int.natCast_zero, Int.cast_ofNat_Int, Int.ofNat_eq_natCast, Int.natCast_one, r2, r3, List.range_one, Int.toNat_one]
    rfl
  case l => rfl
  case g =>
    refine Good.t3 h1 q0 n1 hr hw0 hw1 hw2 (by omega) (by omega) (by omega) ?_
    refine Good.t1 h1 q1 n2 hw0 (by omega) ?_
    refine Good.t1 q0 q1 n3 hw0 (by omega) ?_
    refine Good.t1 h1 q1 n2 hw0 (by omega) ?_
    refine Good.t1 q0 q1 n3 hw1 (by omega) ?_
    refine Good.t1 h1 q1 n2 hw0 (by omega) ?_
    refine Good.t1 q0 q1 n3 hw2 (by omega) ?_
    exact Good.nil
theorem late_3_3 {st g0 g1 g2 one o0 o1 o2 : Int} {w0 w1 w2 : Str} (hr : Rising [w0, w1, w2]) (hw0 : okW w0) (hw1 : okW w1) (hw2 : okW w2) (h1 : 0 ≤ one ∧ one < 4) (q0 : 0 ≤ o0 ∧ o0 < 4) (q1 : 0 ≤ o1 ∧ o1 < 4) (q2 : 0 ≤ o2 ∧ o2 < 4) (n1 : one ≠ o0) (n2 : one ≠ o1) (n3 : o0 ≠ o1) (n4 : o0 ≠ o2) :
    ∃ ds, m_law_told_late [.int st, .lst [.int g0, .int g1, .int g2], .int one, .lst [.int o0, .int o1, .int o2], .lst [.str w0, .str w1, .str w2]] = some (.lst ds) ∧ ds.length = 10 ∧ Good 4 (fun n => (st < n ∧ n < st + 10) ∨ n = g0 ∨ n = g1 ∨ n = g2) ds := by
  refine' ⟨_, ?h, ?l, ?g⟩
  case h =>
    simp (config := { decide := true }) only [m_law_told_late, F_law_told_late, B_law_told_late_1, B_law_told_late_2, runD, sRet, sq, sIf, bB, b1, b2, b3, b1F, b2F, b3S, vget, rget, gL, gM, vAnd, vOr, vNot, bAnd, bOr, bNot, bTru, truD, asB, asI, oI, aCons, sSet, sSetL, sAsg, gN, gNl, gCs, gT, sFor, forD, sWhile, sComp, compL, iL, iT, iR1, iR2, iEn, enumF, asL, asT, rng, RD.inR, sApp, sSetIx, frz, addO, subO, mulO, modO, fdivO, negO, ixO, atI, ixN, lenO, tupO, lstO, intO, eqO, neO, dep, depL, eqD, eqL, ltO, leO, gtO, geO, isO, isnO, catL, dIn, dGet, sDict, sSetM, sDnew, sDput, allO, anyO, isiO, mulT, iS, asS, slD, slF, cutD, Option.bind_some, Option.bind_none, Option.map_some, Option.map_none, List.getElem?_cons_zero, List.getElem?_cons_succ, List.getElem?_nil, List.set_cons_zero, List.set_cons_succ, List.length_cons, List.length_nil, List.map_cons, List.map_nil, List.cons_append, List.nil_append, List.append_nil, List.replicate_succ, List.replicate_zero, Nat.reduceAdd, Nat.reduceSub, Nat.reduceLeDiff, Nat.reduceLT, if_true, if_false, ite_true, ite_false, true_and, and_true, Bool.false_eq_true, decide_true, decide_false, Bool.not_true, Bool.not_false, List.range_zero, Int.toNat_zero, List.length_map, List.length_append, List.length_replicate, Nat.zero_add, Int.zero_add, reduceIte, reduceCtorEq, Int.reduceLT, Int.reduceLE, Int.reducePow, Int.reduceNeg, Int.reduceMul, Int.reduceAdd, Int.reduceSub, Int.reduceToNat, true_or, or_true, and_self, or_self, Bool.and_self, Bool.true_and, Bool.and_true, Bool.true_or, Bool.or_true, Bool.false_and, Bool.false_or, Nat.reduceMul, Nat.reducePow, Int.reduceEq, Nat.reduceEqDiff, Int.natCast_zero, Int.cast_ofNat_Int, Int.ofNat_eq_natCast, Int.natCast_one, r2, r3, List.range_one, Int.toNat_one]
    rfl
  case l => rfl
  case g =>
    refine Good.t3 h1 q0 n1 hr hw0 hw1 hw2 (by omega) (by omega) (by omega) ?_
    refine Good.t1 h1 q1 n2 hw0 (by omega) ?_
    refine Good.t1 q0 q1 n3 hw0 (by omega) ?_
    refine Good.t1 q0 q2 n4 hw0 (by omega) ?_
    refine Good.t1 h1 q1 n2 hw0 (by omega) ?_
    refine Good.t1 q0 q1 n3 hw1 (by omega) ?_
    refine Good.t1 q0 q2 n4 hw1 (by omega) ?_
    refine Good.t1 h1 q1 n2 hw0 (by omega) ?_
    refine Good.t1 q0 q1 n3 hw2 (by omega) ?_
    refine Good.t1 q0 q2 n4 hw2 (by omega) ?_
    exact Good.nil
end LG

set_option Elab.async false
set_option linter.all false
set_option maxRecDepth 100000
set_option maxHeartbeats 4000000
namespace LG
open PySem L2 RD
def b2i (b : Bool) : Int := if b then 1 else 0
theorem told_2_1 (c st g0 g1 g2 : Int) (e : mix c 9949 3 = 0) :
    ∃ ds, m_law_told_on [.int c, .int st, .int 2, .lst [.int g0, .int g1, .int g2]] = some (.lst ds) ∧ (ds.length : Int) = 1 + 1 * (0 + b2i (late c 2)) ∧ Good 2 (fun n => (st < n ∧ n < st + (ds.length : Int)) ∨ n = g0 ∨ n = g1 ∨ n = g2) ds := by
  obtain ⟨W, hO, hW, n01, n02, n12⟩ := words_ex c
  have hsr : Rising (sortS [W 0]) := sortS_rising (by simp [n01, n02, n12])
  have hsl := len_sortS (l := [W 0])
  have hsm : ∀ w ∈ sortS [W 0], okW w := fun w hw => by
    have := mem_sortS.mp hw
    simp only [List.mem_cons, List.not_mem_nil, or_false] at this
    rcases this with rfl <;> exact hO _
  have hs := sort_strs (l := [W 0]) (by simp)
  obtain ⟨w0, ew⟩ := len1 hsl
  rw [ew] at hsr hsm hs
  simp only [List.map_cons, List.map_nil] at hs
  have hw0 := hsm w0 (by simp)
  have a0 := mix_nn c 9929 (m := 2) (by decide)
  have a1 := mix_lt c 9929 (m := 2) (by decide)
  have b0 := mix_nn c 9901 (m := 1) (by decide)
  have b1 := mix_lt c 9901 (m := 1) (by decide)
  generalize ho : mix c 9929 2 = one at a0 a1
  generalize hr : mix c 9901 1 = r at b0 b1
  have q0 : 0 ≤ (one + 1 + r % 1) % 2 ∧ (one + 1 + r % 1) % 2 < 2 := by omega
  have n0 : one ≠ (one + 1 + r % 1) % 2 := by omega
  have h1 : 0 ≤ one ∧ one < 2 := ⟨a0, a1⟩
  have hl : late c 2 = false := by simp [late]
  rw [hl]
  refine' ⟨_, ?h, ?l, ?g⟩
  case h =>
    simp (config := { decide := true }) only [m_law_told_on, F_law_told_on, B_law_told_on_1, B_law_told_on_2, runD, sRet, sq, sIf, bB, b1, b2, b3, b1F, b2F, b3S, vget, rget, gL, gM, vAnd, vOr, vNot, bAnd, bOr, bNot, bTru, truD, asB, asI, oI, aCons, sSet, sSetL, sAsg, gN, gNl, gCs, gT, sFor, forD, sWhile, sComp, compL, iL, iT, iR1, iR2, iEn, enumF, asL, asT, rng, RD.inR, sApp, sSetIx, frz, addO, subO, mulO, modO, fdivO, negO, ixO, atI, ixN, lenO, tupO, lstO, intO, eqO, neO, dep, depL, eqD, eqL, ltO, leO, gtO, geO, isO, isnO, catL, dIn, dGet, sDict, sSetM, sDnew, sDput, allO, anyO, isiO, mulT, iS, asS, slD, slF, cutD, Option.bind_some, Option.bind_none, Option.map_some, Option.map_none, List.getElem?_cons_zero, List.getElem?_cons_succ, List.getElem?_nil, List.set_cons_zero, List.set_cons_succ, List.length_cons, List.length_nil, List.map_cons, List.map_nil, List.cons_append, List.nil_append, List.append_nil, List.replicate_succ, List.replicate_zero, Nat.reduceAdd, Nat.reduceSub, Nat.reduceLeDiff, Nat.reduceLT, if_true, if_false, ite_true, ite_false, true_and, and_true, Bool.false_eq_true, decide_true, decide_false, Bool.not_true, Bool.not_false, List.range_zero, Int.toNat_zero, List.length_map, List.length_append, List.length_replicate, Nat.zero_add, Int.zero_add, reduceIte, reduceCtorEq, Int.reduceLT, Int.reduceLE, Int.reducePow, Int.reduceNeg, Int.reduceMul, Int.reduceAdd, Int.reduceSub, Int.reduceToNat, true_or, or_true, and_self, or_self, Bool.and_self, Bool.true_and, Bool.and_true, Bool.true_or, Bool.or_true, Bool.false_and, Bool.false_or, Nat.reduceMul, Nat.reducePow, Int.reduceEq, Nat.reduceEqDiff, Int.natCast_zero, Int.cast_ofNat_Int, Int.ofNat_eq_natCast, Int.natCast_one, r2, r3, List.range_one, Int.toNat_one, m_late, m_mix, e, hW, hs, ho, hr, hl]
    rfl
  case l => rfl
  case g =>
    simp only [List.length_cons, List.length_nil]
    refine Good.t1 h1 q0 n0 hw0 (by simp; try omega) ?_
    exact Good.nil
theorem told_2_2 (c st g0 g1 g2 : Int) (e : mix c 9949 3 = 1) :
    ∃ ds, m_law_told_on [.int c, .int st, .int 2, .lst [.int g0, .int g1, .int g2]] = some (.lst ds) ∧ (ds.length : Int) = 1 + 2 * (0 + b2i (late c 2)) ∧ Good 2 (fun n => (st < n ∧ n < st + (ds.length : Int)) ∨ n = g0 ∨ n = g1 ∨ n = g2) ds := by
  obtain ⟨W, hO, hW, n01, n02, n12⟩ := words_ex c
  have hsr : Rising (sortS [W 0, W 1]) := sortS_rising (by simp [n01, n02, n12])
  have hsl := len_sortS (l := [W 0, W 1])
  have hsm : ∀ w ∈ sortS [W 0, W 1], okW w := fun w hw => by
    have := mem_sortS.mp hw
    simp only [List.mem_cons, List.not_mem_nil, or_false] at this
    rcases this with rfl | rfl <;> exact hO _
  have hs := sort_strs (l := [W 0, W 1]) (by simp)
  obtain ⟨w0, w1, ew⟩ := len2 hsl
  rw [ew] at hsr hsm hs
  simp only [List.map_cons, List.map_nil] at hs
  have hw0 := hsm w0 (by simp)
  have hw1 := hsm w1 (by simp)
  have a0 := mix_nn c 9929 (m := 2) (by decide)
  have a1 := mix_lt c 9929 (m := 2) (by decide)
  have b0 := mix_nn c 9901 (m := 1) (by decide)
  have b1 := mix_lt c 9901 (m := 1) (by decide)
  generalize ho : mix c 9929 2 = one at a0 a1
  generalize hr : mix c 9901 1 = r at b0 b1
  have q0 : 0 ≤ (one + 1 + r % 1) % 2 ∧ (one + 1 + r % 1) % 2 < 2 := by omega
  have n0 : one ≠ (one + 1 + r % 1) % 2 := by omega
  have h1 : 0 ≤ one ∧ one < 2 := ⟨a0, a1⟩
  have hl : late c 2 = false := by simp [late]
  rw [hl]
  refine' ⟨_, ?h, ?l, ?g⟩
  case h =>
    simp (config := { decide := true }) only [m_law_told_on, F_law_told_on, B_law_told_on_1, B_law_told_on_2, runD, sRet, sq, sIf, bB, b1, b2, b3, b1F, b2F, b3S, vget, rget, gL, gM, vAnd, vOr, vNot, bAnd, bOr, bNot, bTru, truD, asB, asI, oI, aCons, sSet, sSetL, sAsg, gN, gNl, gCs, gT, sFor, forD, sWhile, sComp, compL, iL, iT, iR1, iR2, iEn, enumF, asL, asT, rng, RD.inR, sApp, sSetIx, frz, addO, subO, mulO, modO, fdivO, negO, ixO, atI, ixN, lenO, tupO, lstO, intO, eqO, neO, dep, depL, eqD, eqL, ltO, leO, gtO, geO, isO, isnO, catL, dIn, dGet, sDict, sSetM, sDnew, sDput, allO, anyO, isiO, mulT, iS, asS, slD, slF, cutD, Option.bind_some, Option.bind_none, Option.map_some, Option.map_none, List.getElem?_cons_zero, List.getElem?_cons_succ, List.getElem?_nil, List.set_cons_zero, List.set_cons_succ, List.length_cons, List.length_nil, List.map_cons, List.map_nil, List.cons_append, List.nil_append, List.append_nil, List.replicate_succ, List.replicate_zero, Nat.reduceAdd, Nat.reduceSub, Nat.reduceLeDiff, Nat.reduceLT, if_true, if_false, ite_true, ite_false, true_and, and_true, Bool.false_eq_true, decide_true, decide_false, Bool.not_true, Bool.not_false, List.range_zero, Int.toNat_zero, List.length_map, List.length_append, List.length_replicate, Nat.zero_add, Int.zero_add, reduceIte, reduceCtorEq, Int.reduceLT, Int.reduceLE, Int.reducePow, Int.reduceNeg, Int.reduceMul, Int.reduceAdd, Int.reduceSub, Int.reduceToNat, true_or, or_true, and_self, or_self, Bool.and_self, Bool.true_and, Bool.and_true, Bool.true_or, Bool.or_true, Bool.false_and, Bool.false_or, Nat.reduceMul, Nat.reducePow, Int.reduceEq, Nat.reduceEqDiff, Int.natCast_zero, Int.cast_ofNat_Int, Int.ofNat_eq_natCast, Int.natCast_one, r2, r3, List.range_one, Int.toNat_one, m_late, m_mix, e, hW, hs, ho, hr, hl]
    rfl
  case l => rfl
  case g =>
    simp only [List.length_cons, List.length_nil]
    refine Good.t2 h1 q0 n0 hsr hw0 hw1 (by simp; try omega) (by simp; try omega) ?_
    exact Good.nil
theorem told_2_3 (c st g0 g1 g2 : Int) (e : mix c 9949 3 = 2) :
    ∃ ds, m_law_told_on [.int c, .int st, .int 2, .lst [.int g0, .int g1, .int g2]] = some (.lst ds) ∧ (ds.length : Int) = 1 + 3 * (0 + b2i (late c 2)) ∧ Good 2 (fun n => (st < n ∧ n < st + (ds.length : Int)) ∨ n = g0 ∨ n = g1 ∨ n = g2) ds := by
  obtain ⟨W, hO, hW, n01, n02, n12⟩ := words_ex c
  have hsr : Rising (sortS [W 0, W 1, W 2]) := sortS_rising (by simp [n01, n02, n12])
  have hsl := len_sortS (l := [W 0, W 1, W 2])
  have hsm : ∀ w ∈ sortS [W 0, W 1, W 2], okW w := fun w hw => by
    have := mem_sortS.mp hw
    simp only [List.mem_cons, List.not_mem_nil, or_false] at this
    rcases this with rfl | rfl | rfl <;> exact hO _
  have hs := sort_strs (l := [W 0, W 1, W 2]) (by simp)
  obtain ⟨w0, w1, w2, ew⟩ := len3 hsl
  rw [ew] at hsr hsm hs
  simp only [List.map_cons, List.map_nil] at hs
  have hw0 := hsm w0 (by simp)
  have hw1 := hsm w1 (by simp)
  have hw2 := hsm w2 (by simp)
  have a0 := mix_nn c 9929 (m := 2) (by decide)
  have a1 := mix_lt c 9929 (m := 2) (by decide)
  have b0 := mix_nn c 9901 (m := 1) (by decide)
  have b1 := mix_lt c 9901 (m := 1) (by decide)
  generalize ho : mix c 9929 2 = one at a0 a1
  generalize hr : mix c 9901 1 = r at b0 b1
  have q0 : 0 ≤ (one + 1 + r % 1) % 2 ∧ (one + 1 + r % 1) % 2 < 2 := by omega
  have n0 : one ≠ (one + 1 + r % 1) % 2 := by omega
  have h1 : 0 ≤ one ∧ one < 2 := ⟨a0, a1⟩
  have hl : late c 2 = false := by simp [late]
  rw [hl]
  refine' ⟨_, ?h, ?l, ?g⟩
  case h =>
    simp (config := { decide := true }) only [m_law_told_on, F_law_told_on, B_law_told_on_1, B_law_told_on_2, runD, sRet, sq, sIf, bB, b1, b2, b3, b1F, b2F, b3S, vget, rget, gL, gM, vAnd, vOr, vNot, bAnd, bOr, bNot, bTru, truD, asB, asI, oI, aCons, sSet, sSetL, sAsg, gN, gNl, gCs, gT, sFor, forD, sWhile, sComp, compL, iL, iT, iR1, iR2, iEn, enumF, asL, asT, rng, RD.inR, sApp, sSetIx, frz, addO, subO, mulO, modO, fdivO, negO, ixO, atI, ixN, lenO, tupO, lstO, intO, eqO, neO, dep, depL, eqD, eqL, ltO, leO, gtO, geO, isO, isnO, catL, dIn, dGet, sDict, sSetM, sDnew, sDput, allO, anyO, isiO, mulT, iS, asS, slD, slF, cutD, Option.bind_some, Option.bind_none, Option.map_some, Option.map_none, List.getElem?_cons_zero, List.getElem?_cons_succ, List.getElem?_nil, List.set_cons_zero, List.set_cons_succ, List.length_cons, List.length_nil, List.map_cons, List.map_nil, List.cons_append, List.nil_append, List.append_nil, List.replicate_succ, List.replicate_zero, Nat.reduceAdd, Nat.reduceSub, Nat.reduceLeDiff, Nat.reduceLT, if_true, if_false, ite_true, ite_false, true_and, and_true, Bool.false_eq_true, decide_true, decide_false, Bool.not_true, Bool.not_false, List.range_zero, Int.toNat_zero, List.length_map, List.length_append, List.length_replicate, Nat.zero_add, Int.zero_add, reduceIte, reduceCtorEq, Int.reduceLT, Int.reduceLE, Int.reducePow, Int.reduceNeg, Int.reduceMul, Int.reduceAdd, Int.reduceSub, Int.reduceToNat, true_or, or_true, and_self, or_self, Bool.and_self, Bool.true_and, Bool.and_true, Bool.true_or, Bool.or_true, Bool.false_and, Bool.false_or, Nat.reduceMul, Nat.reducePow, Int.reduceEq, Nat.reduceEqDiff, Int.natCast_zero, Int.cast_ofNat_Int, Int.ofNat_eq_natCast, Int.natCast_one, r2, r3, List.range_one, Int.toNat_one, m_late, m_mix, e, hW, hs, ho, hr, hl]
    rfl
  case l => rfl
  case g =>
    simp only [List.length_cons, List.length_nil]
    refine Good.t3 h1 q0 n0 hsr hw0 hw1 hw2 (by simp; try omega) (by simp; try omega) (by simp; try omega) ?_
    exact Good.nil
theorem told_3_1 (c st g0 g1 g2 : Int) (e : mix c 9949 3 = 0) :
    ∃ ds, m_law_told_on [.int c, .int st, .int 3, .lst [.int g0, .int g1, .int g2]] = some (.lst ds) ∧ (ds.length : Int) = 1 + 1 * (1 + b2i (late c 3)) ∧ Good 3 (fun n => (st < n ∧ n < st + (ds.length : Int)) ∨ n = g0 ∨ n = g1 ∨ n = g2) ds := by
  obtain ⟨W, hO, hW, n01, n02, n12⟩ := words_ex c
  have hsr : Rising (sortS [W 0]) := sortS_rising (by simp [n01, n02, n12])
  have hsl := len_sortS (l := [W 0])
  have hsm : ∀ w ∈ sortS [W 0], okW w := fun w hw => by
    have := mem_sortS.mp hw
    simp only [List.mem_cons, List.not_mem_nil, or_false] at this
    rcases this with rfl <;> exact hO _
  have hs := sort_strs (l := [W 0]) (by simp)
  obtain ⟨w0, ew⟩ := len1 hsl
  rw [ew] at hsr hsm hs
  simp only [List.map_cons, List.map_nil] at hs
  have hw0 := hsm w0 (by simp)
  have a0 := mix_nn c 9929 (m := 3) (by decide)
  have a1 := mix_lt c 9929 (m := 3) (by decide)
  have b0 := mix_nn c 9901 (m := 2) (by decide)
  have b1 := mix_lt c 9901 (m := 2) (by decide)
  generalize ho : mix c 9929 3 = one at a0 a1
  generalize hr : mix c 9901 2 = r at b0 b1
  have q0 : 0 ≤ (one + 1 + r % 2) % 3 ∧ (one + 1 + r % 2) % 3 < 3 := by omega
  have n0 : one ≠ (one + 1 + r % 2) % 3 := by omega
  have q1 : 0 ≤ (one + 1 + (1 + r) % 2) % 3 ∧ (one + 1 + (1 + r) % 2) % 3 < 3 := by omega
  have n1 : one ≠ (one + 1 + (1 + r) % 2) % 3 := by omega
  have h1 : 0 ≤ one ∧ one < 3 := ⟨a0, a1⟩
  cases hl : late c 3 with
  | true =>
    obtain ⟨ds, e1, e2, e3⟩ := late_1_2 (st := st) (g0 := g0) (g1 := g1) (g2 := g2) (one := one) (o0 := (one + 1 + r % 2) % 3) (o1 := (one + 1 + (1 + r) % 2) % 3) hsr hw0 h1 q0 q1 n0 n1 (by omega)
    refine ⟨ds, ?_, by rw [e2]; rfl, by rw [e2]; exact e3⟩
    simp (config := { decide := true }) only [m_law_told_on, F_law_told_on, B_law_told_on_1, B_law_told_on_2, runD, sRet, sq, sIf, bB, b1, b2, b3, b1F, b2F, b3S, vget, rget, gL, gM, vAnd, vOr, vNot, bAnd, bOr, bNot, bTru, truD, asB, asI, oI, aCons, sSet, sSetL, sAsg, gN, gNl, gCs, gT, sFor, forD, sWhile, sComp, compL, iL, iT, iR1, iR2, iEn, enumF, asL, asT, rng, RD.inR, sApp, sSetIx, frz, addO, subO, mulO, modO, fdivO, negO, ixO, atI, ixN, lenO, tupO, lstO, intO, eqO, neO, dep, depL, eqD, eqL, ltO, leO, gtO, geO, isO, isnO, catL, dIn, dGet, sDict, sSetM, sDnew, sDput, allO, anyO, isiO, mulT, iS, asS, slD, slF, cutD, Option.bind_some, Option.bind_none, Option.map_some, Option.map_none, List.getElem?_cons_zero, List.getElem?_cons_succ, List.getElem?_nil, List.set_cons_zero, List.set_cons_succ, List.length_cons, List.length_nil, List.map_cons, List.map_nil, List.cons_append, List.nil_append, List.append_nil, List.replicate_succ, List.replicate_zero, Nat.reduceAdd, Nat.reduceSub, Nat.reduceLeDiff, Nat.reduceLT, if_true, if_false, ite_true, ite_false, true_and, and_true, Bool.false_eq_true, decide_true, decide_false, Bool.not_true, Bool.not_false, List.range_zero, Int.toNat_zero, List.length_map, List.length_append, List.length_replicate, Nat.zero_add, Int.zero_add, reduceIte, reduceCtorEq, Int.reduceLT, Int.reduceLE, Int.reducePow, Int.reduceNeg, Int.reduceMul, Int.reduceAdd, Int.reduceSub, Int.reduceToNat, true_or, or_true, and_self, or_self, Bool.and_self, Bool.true_and, Bool.and_true, Bool.true_or, Bool.or_true, Bool.false_and, Bool.false_or, Nat.reduceMul, Nat.reducePow, Int.reduceEq, Nat.reduceEqDiff, Int.natCast_zero, Int.cast_ofNat_Int, Int.ofNat_eq_natCast, Int.natCast_one, r2, r3, List.range_one, Int.toNat_one, m_late, m_mix, e, hW, hs, ho, hr, hl, e1]
  | false =>
    refine' ⟨_, ?h, ?l, ?g⟩
    case h =>
      simp (config := { decide := true }) only [m_law_told_on, F_law_told_on, B_law_told_on_1, B_law_told_on_2, runD, sRet, sq, sIf, bB, b1, b2, b3, b1F, b2F, b3S, vget, rget, gL, gM, vAnd, vOr, vNot, bAnd, bOr, bNot, bTru, truD, asB, asI, oI, aCons, sSet, sSetL, sAsg, gN, gNl, gCs, gT, sFor, forD, sWhile, sComp, compL, iL, iT, iR1, iR2, iEn, enumF, asL, asT, rng, RD.inR, sApp, sSetIx, frz, addO, subO, mulO, modO, fdivO, negO, ixO, atI, ixN, lenO, tupO, lstO, intO, eqO, neO, dep, depL, eqD, eqL, ltO, leO, gtO, geO, isO, isnO, catL, dIn, dGet, sDict, sSetM, sDnew, sDput, allO, anyO, isiO, mulT, iS, asS, slD, slF, cutD, Option.bind_some, Option.bind_none, Option.map_some, Option.map_none, List.getElem?_cons_zero, List.getElem?_cons_succ, List.getElem?_nil, List.set_cons_zero, List.set_cons_succ, List.length_cons, List.length_nil, List.map_cons, List.map_nil, List.cons_append, List.nil_append, List.append_nil, List.replicate_succ, List.replicate_zero, Nat.reduceAdd, Nat.reduceSub, Nat.reduceLeDiff, Nat.reduceLT, if_true, if_false, ite_true, ite_false, true_and, and_true, Bool.false_eq_true, decide_true, decide_false, Bool.not_true, Bool.not_false, List.range_zero, Int.toNat_zero, List.length_map, List.length_append, List.length_replicate, Nat.zero_add, Int.zero_add, reduceIte, reduceCtorEq, Int.reduceLT, Int.reduceLE, Int.reducePow, Int.reduceNeg, Int.reduceMul, Int.reduceAdd, Int.reduceSub, Int.reduceToNat, true_or, or_true, and_self, or_self, Bool.and_self, Bool.true_and, Bool.and_true, Bool.true_or, Bool.or_true, Bool.false_and, Bool.false_or, Nat.reduceMul, Nat.reducePow, Int.reduceEq, Nat.reduceEqDiff, Int.natCast_zero, Int.cast_ofNat_Int, Int.ofNat_eq_natCast, Int.natCast_one, r2, r3, List.range_one, Int.toNat_one, m_late, m_mix, e, hW, hs, ho, hr, hl]
      rfl
    case l => rfl
    case g =>
      simp only [List.length_cons, List.length_nil]
      refine Good.t1 h1 q0 n0 hw0 (by simp; try omega) ?_
      refine Good.t1 h1 q1 n1 hw0 (by simp; try omega) ?_
      exact Good.nil
theorem told_3_2 (c st g0 g1 g2 : Int) (e : mix c 9949 3 = 1) :
    ∃ ds, m_law_told_on [.int c, .int st, .int 3, .lst [.int g0, .int g1, .int g2]] = some (.lst ds) ∧ (ds.length : Int) = 1 + 2 * (1 + b2i (late c 3)) ∧ Good 3 (fun n => (st < n ∧ n < st + (ds.length : Int)) ∨ n = g0 ∨ n = g1 ∨ n = g2) ds := by
  obtain ⟨W, hO, hW, n01, n02, n12⟩ := words_ex c
  have hsr : Rising (sortS [W 0, W 1]) := sortS_rising (by simp [n01, n02, n12])
  have hsl := len_sortS (l := [W 0, W 1])
  have hsm : ∀ w ∈ sortS [W 0, W 1], okW w := fun w hw => by
    have := mem_sortS.mp hw
    simp only [List.mem_cons, List.not_mem_nil, or_false] at this
    rcases this with rfl | rfl <;> exact hO _
  have hs := sort_strs (l := [W 0, W 1]) (by simp)
  obtain ⟨w0, w1, ew⟩ := len2 hsl
  rw [ew] at hsr hsm hs
  simp only [List.map_cons, List.map_nil] at hs
  have hw0 := hsm w0 (by simp)
  have hw1 := hsm w1 (by simp)
  have a0 := mix_nn c 9929 (m := 3) (by decide)
  have a1 := mix_lt c 9929 (m := 3) (by decide)
  have b0 := mix_nn c 9901 (m := 2) (by decide)
  have b1 := mix_lt c 9901 (m := 2) (by decide)
  generalize ho : mix c 9929 3 = one at a0 a1
  generalize hr : mix c 9901 2 = r at b0 b1
  have q0 : 0 ≤ (one + 1 + r % 2) % 3 ∧ (one + 1 + r % 2) % 3 < 3 := by omega
  have n0 : one ≠ (one + 1 + r % 2) % 3 := by omega
  have q1 : 0 ≤ (one + 1 + (1 + r) % 2) % 3 ∧ (one + 1 + (1 + r) % 2) % 3 < 3 := by omega
  have n1 : one ≠ (one + 1 + (1 + r) % 2) % 3 := by omega
  have h1 : 0 ≤ one ∧ one < 3 := ⟨a0, a1⟩
  cases hl : late c 3 with
  | true =>
    obtain ⟨ds, e1, e2, e3⟩ := late_2_2 (st := st) (g0 := g0) (g1 := g1) (g2 := g2) (one := one) (o0 := (one + 1 + r % 2) % 3) (o1 := (one + 1 + (1 + r) % 2) % 3) hsr hw0 hw1 h1 q0 q1 n0 n1 (by omega)
    refine ⟨ds, ?_, by rw [e2]; rfl, by rw [e2]; exact e3⟩
    simp (config := { decide := true }) only [m_law_told_on, F_law_told_on, B_law_told_on_1, B_law_told_on_2, runD, sRet, sq, sIf, bB, b1, b2, b3, b1F, b2F, b3S, vget, rget, gL, gM, vAnd, vOr, vNot, bAnd, bOr, bNot, bTru, truD, asB, asI, oI, aCons, sSet, sSetL, sAsg, gN, gNl, gCs, gT, sFor, forD, sWhile, sComp, compL, iL, iT, iR1, iR2, iEn, enumF, asL, asT, rng, RD.inR, sApp, sSetIx, frz, addO, subO, mulO, modO, fdivO, negO, ixO, atI, ixN, lenO, tupO, lstO, intO, eqO, neO, dep, depL, eqD, eqL, ltO, leO, gtO, geO, isO, isnO, catL, dIn, dGet, sDict, sSetM, sDnew, sDput, allO, anyO, isiO, mulT, iS, asS, slD, slF, cutD, Option.bind_some, Option.bind_none, Option.map_some, Option.map_none, List.getElem?_cons_zero, List.getElem?_cons_succ, List.getElem?_nil, List.set_cons_zero, List.set_cons_succ, List.length_cons, List.length_nil, List.map_cons, List.map_nil, List.cons_append, List.nil_append, List.append_nil, List.replicate_succ, List.replicate_zero, Nat.reduceAdd, Nat.reduceSub, Nat.reduceLeDiff, Nat.reduceLT, if_true, if_false, ite_true, ite_false, true_and, and_true, Bool.false_eq_true, decide_true, decide_false, Bool.not_true, Bool.not_false, List.range_zero, Int.toNat_zero, List.length_map, List.length_append, List.length_replicate, Nat.zero_add, Int.zero_add, reduceIte, reduceCtorEq, Int.reduceLT, Int.reduceLE, Int.reducePow, Int.reduceNeg, Int.reduceMul, Int.reduceAdd, Int.reduceSub, Int.reduceToNat, true_or, or_true, and_self, or_self, Bool.and_self, Bool.true_and, Bool.and_true, Bool.true_or, Bool.or_true, Bool.false_and, Bool.false_or, Nat.reduceMul, Nat.reducePow, Int.reduceEq, Nat.reduceEqDiff, Int.natCast_zero, Int.cast_ofNat_Int, Int.ofNat_eq_natCast, Int.natCast_one, r2, r3, List.range_one, Int.toNat_one, m_late, m_mix, e, hW, hs, ho, hr, hl, e1]
  | false =>
    refine' ⟨_, ?h, ?l, ?g⟩
    case h =>
      simp (config := { decide := true }) only [m_law_told_on, F_law_told_on, B_law_told_on_1, B_law_told_on_2, runD, sRet, sq, sIf, bB, b1, b2, b3, b1F, b2F, b3S, vget, rget, gL, gM, vAnd, vOr, vNot, bAnd, bOr, bNot, bTru, truD, asB, asI, oI, aCons, sSet, sSetL, sAsg, gN, gNl, gCs, gT, sFor, forD, sWhile, sComp, compL, iL, iT, iR1, iR2, iEn, enumF, asL, asT, rng, RD.inR, sApp, sSetIx, frz, addO, subO, mulO, modO, fdivO, negO, ixO, atI, ixN, lenO, tupO, lstO, intO, eqO, neO, dep, depL, eqD, eqL, ltO, leO, gtO, geO, isO, isnO, catL, dIn, dGet, sDict, sSetM, sDnew, sDput, allO, anyO, isiO, mulT, iS, asS, slD, slF, cutD, Option.bind_some, Option.bind_none, Option.map_some, Option.map_none, List.getElem?_cons_zero, List.getElem?_cons_succ, List.getElem?_nil, List.set_cons_zero, List.set_cons_succ, List.length_cons, List.length_nil, List.map_cons, List.map_nil, List.cons_append, List.nil_append, List.append_nil, List.replicate_succ, List.replicate_zero, Nat.reduceAdd, Nat.reduceSub, Nat.reduceLeDiff, Nat.reduceLT, if_true, if_false, ite_true, ite_false, true_and, and_true, Bool.false_eq_true, decide_true, decide_false, Bool.not_true, Bool.not_false, List.range_zero, Int.toNat_zero, List.length_map, List.length_append, List.length_replicate, Nat.zero_add, Int.zero_add, reduceIte, reduceCtorEq, Int.reduceLT, Int.reduceLE, Int.reducePow, Int.reduceNeg, Int.reduceMul, Int.reduceAdd, Int.reduceSub, Int.reduceToNat, true_or, or_true, and_self, or_self, Bool.and_self, Bool.true_and, Bool.and_true, Bool.true_or, Bool.or_true, Bool.false_and, Bool.false_or, Nat.reduceMul, Nat.reducePow, Int.reduceEq, Nat.reduceEqDiff, Int.natCast_zero, Int.cast_ofNat_Int, Int.ofNat_eq_natCast, Int.natCast_one, r2, r3, List.range_one, Int.toNat_one, m_late, m_mix, e, hW, hs, ho, hr, hl]
      rfl
    case l => rfl
    case g =>
      simp only [List.length_cons, List.length_nil]
      refine Good.t2 h1 q0 n0 hsr hw0 hw1 (by simp; try omega) (by simp; try omega) ?_
      refine Good.t1 h1 q1 n1 hw0 (by simp; try omega) ?_
      refine Good.t1 h1 q1 n1 hw1 (by simp; try omega) ?_
      exact Good.nil
theorem told_3_3 (c st g0 g1 g2 : Int) (e : mix c 9949 3 = 2) :
    ∃ ds, m_law_told_on [.int c, .int st, .int 3, .lst [.int g0, .int g1, .int g2]] = some (.lst ds) ∧ (ds.length : Int) = 1 + 3 * (1 + b2i (late c 3)) ∧ Good 3 (fun n => (st < n ∧ n < st + (ds.length : Int)) ∨ n = g0 ∨ n = g1 ∨ n = g2) ds := by
  obtain ⟨W, hO, hW, n01, n02, n12⟩ := words_ex c
  have hsr : Rising (sortS [W 0, W 1, W 2]) := sortS_rising (by simp [n01, n02, n12])
  have hsl := len_sortS (l := [W 0, W 1, W 2])
  have hsm : ∀ w ∈ sortS [W 0, W 1, W 2], okW w := fun w hw => by
    have := mem_sortS.mp hw
    simp only [List.mem_cons, List.not_mem_nil, or_false] at this
    rcases this with rfl | rfl | rfl <;> exact hO _
  have hs := sort_strs (l := [W 0, W 1, W 2]) (by simp)
  obtain ⟨w0, w1, w2, ew⟩ := len3 hsl
  rw [ew] at hsr hsm hs
  simp only [List.map_cons, List.map_nil] at hs
  have hw0 := hsm w0 (by simp)
  have hw1 := hsm w1 (by simp)
  have hw2 := hsm w2 (by simp)
  have a0 := mix_nn c 9929 (m := 3) (by decide)
  have a1 := mix_lt c 9929 (m := 3) (by decide)
  have b0 := mix_nn c 9901 (m := 2) (by decide)
  have b1 := mix_lt c 9901 (m := 2) (by decide)
  generalize ho : mix c 9929 3 = one at a0 a1
  generalize hr : mix c 9901 2 = r at b0 b1
  have q0 : 0 ≤ (one + 1 + r % 2) % 3 ∧ (one + 1 + r % 2) % 3 < 3 := by omega
  have n0 : one ≠ (one + 1 + r % 2) % 3 := by omega
  have q1 : 0 ≤ (one + 1 + (1 + r) % 2) % 3 ∧ (one + 1 + (1 + r) % 2) % 3 < 3 := by omega
  have n1 : one ≠ (one + 1 + (1 + r) % 2) % 3 := by omega
  have h1 : 0 ≤ one ∧ one < 3 := ⟨a0, a1⟩
  cases hl : late c 3 with
  | true =>
    obtain ⟨ds, e1, e2, e3⟩ := late_3_2 (st := st) (g0 := g0) (g1 := g1) (g2 := g2) (one := one) (o0 := (one + 1 + r % 2) % 3) (o1 := (one + 1 + (1 + r) % 2) % 3) hsr hw0 hw1 hw2 h1 q0 q1 n0 n1 (by omega)
    refine ⟨ds, ?_, by rw [e2]; rfl, by rw [e2]; exact e3⟩
    simp (config := { decide := true }) only [m_law_told_on, F_law_told_on, B_law_told_on_1, B_law_told_on_2, runD, sRet, sq, sIf, bB, b1, b2, b3, b1F, b2F, b3S, vget, rget, gL, gM, vAnd, vOr, vNot, bAnd, bOr, bNot, bTru, truD, asB, asI, oI, aCons, sSet, sSetL, sAsg, gN, gNl, gCs, gT, sFor, forD, sWhile, sComp, compL, iL, iT, iR1, iR2, iEn, enumF, asL, asT, rng, RD.inR, sApp, sSetIx, frz, addO, subO, mulO, modO, fdivO, negO, ixO, atI, ixN, lenO, tupO, lstO, intO, eqO, neO, dep, depL, eqD, eqL, ltO, leO, gtO, geO, isO, isnO, catL, dIn, dGet, sDict, sSetM, sDnew, sDput, allO, anyO, isiO, mulT, iS, asS, slD, slF, cutD, Option.bind_some, Option.bind_none, Option.map_some, Option.map_none, List.getElem?_cons_zero, List.getElem?_cons_succ, List.getElem?_nil, List.set_cons_zero, List.set_cons_succ, List.length_cons, List.length_nil, List.map_cons, List.map_nil, List.cons_append, List.nil_append, List.append_nil, List.replicate_succ, List.replicate_zero, Nat.reduceAdd, Nat.reduceSub, Nat.reduceLeDiff, Nat.reduceLT, if_true, if_false, ite_true, ite_false, true_and, and_true, Bool.false_eq_true, decide_true, decide_false, Bool.not_true, Bool.not_false, List.range_zero, Int.toNat_zero, List.length_map, List.length_append, List.length_replicate, Nat.zero_add, Int.zero_add, reduceIte, reduceCtorEq, Int.reduceLT, Int.reduceLE, Int.reducePow, Int.reduceNeg, Int.reduceMul, Int.reduceAdd, Int.reduceSub, Int.reduceToNat, true_or, or_true, and_self, or_self, Bool.and_self, Bool.true_and, Bool.and_true, Bool.true_or, Bool.or_true, Bool.false_and, Bool.false_or, Nat.reduceMul, Nat.reducePow, Int.reduceEq, Nat.reduceEqDiff, Int.natCast_zero, Int.cast_ofNat_Int, Int.ofNat_eq_natCast, Int.natCast_one, r2, r3, List.range_one, Int.toNat_one, m_late, m_mix, e, hW, hs, ho, hr, hl, e1]
  | false =>
    refine' ⟨_, ?h, ?l, ?g⟩
    case h =>
      simp (config := { decide := true }) only [m_law_told_on, F_law_told_on, B_law_told_on_1, B_law_told_on_2, runD, sRet, sq, sIf, bB, b1, b2, b3, b1F, b2F, b3S, vget, rget, gL, gM, vAnd, vOr, vNot, bAnd, bOr, bNot, bTru, truD, asB, asI, oI, aCons, sSet, sSetL, sAsg, gN, gNl, gCs, gT, sFor, forD, sWhile, sComp, compL, iL, iT, iR1, iR2, iEn, enumF, asL, asT, rng, RD.inR, sApp, sSetIx, frz, addO, subO, mulO, modO, fdivO, negO, ixO, atI, ixN, lenO, tupO, lstO, intO, eqO, neO, dep, depL, eqD, eqL, ltO, leO, gtO, geO, isO, isnO, catL, dIn, dGet, sDict, sSetM, sDnew, sDput, allO, anyO, isiO, mulT, iS, asS, slD, slF, cutD, Option.bind_some, Option.bind_none, Option.map_some, Option.map_none, List.getElem?_cons_zero, List.getElem?_cons_succ, List.getElem?_nil, List.set_cons_zero, List.set_cons_succ, List.length_cons, List.length_nil, List.map_cons, List.map_nil, List.cons_append, List.nil_append, List.append_nil, List.replicate_succ, List.replicate_zero, Nat.reduceAdd, Nat.reduceSub, Nat.reduceLeDiff, Nat.reduceLT, if_true, if_false, ite_true, ite_false, true_and, and_true, Bool.false_eq_true, decide_true, decide_false, Bool.not_true, Bool.not_false, List.range_zero, Int.toNat_zero, List.length_map, List.length_append, List.length_replicate, Nat.zero_add, Int.zero_add, reduceIte, reduceCtorEq, Int.reduceLT, Int.reduceLE, Int.reducePow, Int.reduceNeg, Int.reduceMul, Int.reduceAdd, Int.reduceSub, Int.reduceToNat, true_or, or_true, and_self, or_self, Bool.and_self, Bool.true_and, Bool.and_true, Bool.true_or, Bool.or_true, Bool.false_and, Bool.false_or, Nat.reduceMul, Nat.reducePow, Int.reduceEq, Nat.reduceEqDiff, Int.natCast_zero, Int.cast_ofNat_Int, Int.ofNat_eq_natCast, Int.natCast_one, r2, r3, List.range_one, Int.toNat_one, m_late, m_mix, e, hW, hs, ho, hr, hl]
      rfl
    case l => rfl
    case g =>
      simp only [List.length_cons, List.length_nil]
      refine Good.t3 h1 q0 n0 hsr hw0 hw1 hw2 (by simp; try omega) (by simp; try omega) (by simp; try omega) ?_
      refine Good.t1 h1 q1 n1 hw0 (by simp; try omega) ?_
      refine Good.t1 h1 q1 n1 hw1 (by simp; try omega) ?_
      refine Good.t1 h1 q1 n1 hw2 (by simp; try omega) ?_
      exact Good.nil
theorem told_4_1 (c st g0 g1 g2 : Int) (e : mix c 9949 3 = 0) :
    ∃ ds, m_law_told_on [.int c, .int st, .int 4, .lst [.int g0, .int g1, .int g2]] = some (.lst ds) ∧ (ds.length : Int) = 1 + 1 * (2 + b2i (late c 4)) ∧ Good 4 (fun n => (st < n ∧ n < st + (ds.length : Int)) ∨ n = g0 ∨ n = g1 ∨ n = g2) ds := by
  obtain ⟨W, hO, hW, n01, n02, n12⟩ := words_ex c
  have hsr : Rising (sortS [W 0]) := sortS_rising (by simp [n01, n02, n12])
  have hsl := len_sortS (l := [W 0])
  have hsm : ∀ w ∈ sortS [W 0], okW w := fun w hw => by
    have := mem_sortS.mp hw
    simp only [List.mem_cons, List.not_mem_nil, or_false] at this
    rcases this with rfl <;> exact hO _
  have hs := sort_strs (l := [W 0]) (by simp)
  obtain ⟨w0, ew⟩ := len1 hsl
  rw [ew] at hsr hsm hs
  simp only [List.map_cons, List.map_nil] at hs
  have hw0 := hsm w0 (by simp)
  have a0 := mix_nn c 9929 (m := 4) (by decide)
  have a1 := mix_lt c 9929 (m := 4) (by decide)
  have b0 := mix_nn c 9901 (m := 3) (by decide)
  have b1 := mix_lt c 9901 (m := 3) (by decide)
  generalize ho : mix c 9929 4 = one at a0 a1
  generalize hr : mix c 9901 3 = r at b0 b1
  have q0 : 0 ≤ (one + 1 + r % 3) % 4 ∧ (one + 1 + r % 3) % 4 < 4 := by omega
  have n0 : one ≠ (one + 1 + r % 3) % 4 := by omega
  have q1 : 0 ≤ (one + 1 + (1 + r) % 3) % 4 ∧ (one + 1 + (1 + r) % 3) % 4 < 4 := by omega
  have n1 : one ≠ (one + 1 + (1 + r) % 3) % 4 := by omega
  have q2 : 0 ≤ (one + 1 + (2 + r) % 3) % 4 ∧ (one + 1 + (2 + r) % 3) % 4 < 4 := by omega
  have n2 : one ≠ (one + 1 + (2 + r) % 3) % 4 := by omega
  have h1 : 0 ≤ one ∧ one < 4 := ⟨a0, a1⟩
  cases hl : late c 4 with
  | true =>
    obtain ⟨ds, e1, e2, e3⟩ := late_1_3 (st := st) (g0 := g0) (g1 := g1) (g2 := g2) (one := one) (o0 := (one + 1 + r % 3) % 4) (o1 := (one + 1 + (1 + r) % 3) % 4) (o2 := (one + 1 + (2 + r) % 3) % 4) hsr hw0 h1 q0 q1 q2 n0 n1 (by omega) (by omega)
    refine ⟨ds, ?_, by rw [e2]; rfl, by rw [e2]; exact e3⟩
    simp (config := { decide := true }) only [m_law_told_on, F_law_told_on, B_law_told_on_1, B_law_told_on_2, runD, sRet, sq, sIf, bB, b1, b2, b3, b1F, b2F, b3S, vget, rget, gL, gM, vAnd, vOr, vNot, bAnd, bOr, bNot, bTru, truD, asB, asI, oI, aCons, sSet, sSetL, sAsg, gN, gNl, gCs, gT, sFor, forD, sWhile, sComp, compL, iL, iT, iR1, iR2, iEn, enumF, asL, asT, rng, RD.inR, sApp, sSetIx, frz, addO, subO, mulO, modO, fdivO, negO, ixO, atI, ixN, lenO, tupO, lstO, intO, eqO, neO, dep, depL, eqD, eqL, ltO, leO, gtO, geO, isO, isnO, catL, dIn, dGet, sDict, sSetM, sDnew, sDput, allO, anyO, isiO, mulT, iS, asS, slD, slF, cutD, Option.bind_some, Option.bind_none, Option.map_some, Option.map_none, List.getElem?_cons_zero, List.getElem?_cons_succ, List.getElem?_nil, List.set_cons_zero, List.set_cons_succ, List.length_cons, List.length_nil, List.map_cons, List.map_nil, List.cons_append, List.nil_append, List.append_nil, List.replicate_succ, List.replicate_zero, Nat.reduceAdd, Nat.reduceSub, Nat.reduceLeDiff, Nat.reduceLT, if_true, if_false, ite_true, ite_false, true_and, and_true, Bool.false_eq_true, decide_true, decide_false, Bool.not_true, Bool.not_false, List.range_zero, Int.toNat_zero, List.length_map, List.length_append, List.length_replicate, Nat.zero_add, Int.zero_add, reduceIte, reduceCtorEq, Int.reduceLT, Int.reduceLE, Int.reducePow, Int.reduceNeg, Int.reduceMul, Int.reduceAdd, Int.reduceSub, Int.reduceToNat, true_or, or_true, and_self, or_self, Bool.and_self, Bool.true_and, Bool.and_true, Bool.true_or, Bool.or_true, Bool.false_and, Bool.false_or, Nat.reduceMul, Nat.reducePow, Int.reduceEq, Nat.reduceEqDiff, Int.natCast_zero, Int.cast_ofNat_Int, Int.ofNat_eq_natCast, Int.natCast_one, r2, r3, List.range_one, Int.toNat_one, m_late, m_mix, e, hW, hs, ho, hr, hl, e1]
  | false =>
    refine' ⟨_, ?h, ?l, ?g⟩
    case h =>
      simp (config := { decide := true }) only [m_law_told_on, F_law_told_on, B_law_told_on_1, B_law_told_on_2, runD, sRet, sq, sIf, bB, b1, b2, b3, b1F, b2F, b3S, vget, rget, gL, gM, vAnd, vOr, vNot, bAnd, bOr, bNot, bTru, truD, asB, asI, oI, aCons, sSet, sSetL, sAsg, gN, gNl, gCs, gT, sFor, forD, sWhile, sComp, compL, iL, iT, iR1, iR2, iEn, enumF, asL, asT, rng, RD.inR, sApp, sSetIx, frz, addO, subO, mulO, modO, fdivO, negO, ixO, atI, ixN, lenO, tupO, lstO, intO, eqO, neO, dep, depL, eqD, eqL, ltO, leO, gtO, geO, isO, isnO, catL, dIn, dGet, sDict, sSetM, sDnew, sDput, allO, anyO, isiO, mulT, iS, asS, slD, slF, cutD, Option.bind_some, Option.bind_none, Option.map_some, Option.map_none, List.getElem?_cons_zero, List.getElem?_cons_succ, List.getElem?_nil, List.set_cons_zero, List.set_cons_succ, List.length_cons, List.length_nil, List.map_cons, List.map_nil, List.cons_append, List.nil_append, List.append_nil, List.replicate_succ, List.replicate_zero, Nat.reduceAdd, Nat.reduceSub, Nat.reduceLeDiff, Nat.reduceLT, if_true, if_false, ite_true, ite_false, true_and, and_true, Bool.false_eq_true, decide_true, decide_false, Bool.not_true, Bool.not_false, List.range_zero, Int.toNat_zero, List.length_map, List.length_append, List.length_replicate, Nat.zero_add, Int.zero_add, reduceIte, reduceCtorEq, Int.reduceLT, Int.reduceLE, Int.reducePow, Int.reduceNeg, Int.reduceMul, Int.reduceAdd, Int.reduceSub, Int.reduceToNat, true_or, or_true, and_self, or_self, Bool.and_self, Bool.true_and, Bool.and_true, Bool.true_or, Bool.or_true, Bool.false_and, Bool.false_or, Nat.reduceMul, Nat.reducePow, Int.reduceEq, Nat.reduceEqDiff, Int.natCast_zero, Int.cast_ofNat_Int, Int.ofNat_eq_natCast, Int.natCast_one, r2, r3, List.range_one, Int.toNat_one, m_late, m_mix, e, hW, hs, ho, hr, hl]
      rfl
    case l => rfl
    case g =>
      simp only [List.length_cons, List.length_nil]
      refine Good.t1 h1 q0 n0 hw0 (by simp; try omega) ?_
      refine Good.t1 h1 q1 n1 hw0 (by simp; try omega) ?_
      refine Good.t1 h1 q2 n2 hw0 (by simp; try omega) ?_
      exact Good.nil
theorem told_4_2 (c st g0 g1 g2 : Int) (e : mix c 9949 3 = 1) :
    ∃ ds, m_law_told_on [.int c, .int st, .int 4, .lst [.int g0, .int g1, .int g2]] = some (.lst ds) ∧ (ds.length : Int) = 1 + 2 * (2 + b2i (late c 4)) ∧ Good 4 (fun n => (st < n ∧ n < st + (ds.length : Int)) ∨ n = g0 ∨ n = g1 ∨ n = g2) ds := by
  obtain ⟨W, hO, hW, n01, n02, n12⟩ := words_ex c
  have hsr : Rising (sortS [W 0, W 1]) := sortS_rising (by simp [n01, n02, n12])
  have hsl := len_sortS (l := [W 0, W 1])
  have hsm : ∀ w ∈ sortS [W 0, W 1], okW w := fun w hw => by
    have := mem_sortS.mp hw
    simp only [List.mem_cons, List.not_mem_nil, or_false] at this
    rcases this with rfl | rfl <;> exact hO _
  have hs := sort_strs (l := [W 0, W 1]) (by simp)
  obtain ⟨w0, w1, ew⟩ := len2 hsl
  rw [ew] at hsr hsm hs
  simp only [List.map_cons, List.map_nil] at hs
  have hw0 := hsm w0 (by simp)
  have hw1 := hsm w1 (by simp)
  have a0 := mix_nn c 9929 (m := 4) (by decide)
  have a1 := mix_lt c 9929 (m := 4) (by decide)
  have b0 := mix_nn c 9901 (m := 3) (by decide)
  have b1 := mix_lt c 9901 (m := 3) (by decide)
  generalize ho : mix c 9929 4 = one at a0 a1
  generalize hr : mix c 9901 3 = r at b0 b1
  have q0 : 0 ≤ (one + 1 + r % 3) % 4 ∧ (one + 1 + r % 3) % 4 < 4 := by omega
  have n0 : one ≠ (one + 1 + r % 3) % 4 := by omega
  have q1 : 0 ≤ (one + 1 + (1 + r) % 3) % 4 ∧ (one + 1 + (1 + r) % 3) % 4 < 4 := by omega
  have n1 : one ≠ (one + 1 + (1 + r) % 3) % 4 := by omega
  have q2 : 0 ≤ (one + 1 + (2 + r) % 3) % 4 ∧ (one + 1 + (2 + r) % 3) % 4 < 4 := by omega
  have n2 : one ≠ (one + 1 + (2 + r) % 3) % 4 := by omega
  have h1 : 0 ≤ one ∧ one < 4 := ⟨a0, a1⟩
  cases hl : late c 4 with
  | true =>
    obtain ⟨ds, e1, e2, e3⟩ := late_2_3 (st := st) (g0 := g0) (g1 := g1) (g2 := g2) (one := one) (o0 := (one + 1 + r % 3) % 4) (o1 := (one + 1 + (1 + r) % 3) % 4) (o2 := (one + 1 + (2 + r) % 3) % 4) hsr hw0 hw1 h1 q0 q1 q2 n0 n1 (by omega) (by omega)
    refine ⟨ds, ?_, by rw [e2]; rfl, by rw [e2]; exact e3⟩
    simp (config := { decide := true }) only [m_law_told_on, F_law_told_on, B_law_told_on_1, B_law_told_on_2, runD, sRet, sq, sIf, bB, b1, b2, b3, b1F, b2F, b3S, vget, rget, gL, gM, vAnd, vOr, vNot, bAnd, bOr, bNot, bTru, truD, asB, asI, oI, aCons, sSet, sSetL, sAsg, gN, gNl, gCs, gT, sFor, forD, sWhile, sComp, compL, iL, iT, iR1, iR2, iEn, enumF, asL, asT, rng, RD.inR, sApp, sSetIx, frz, addO, subO, mulO, modO, fdivO, negO, ixO, atI, ixN, lenO, tupO, lstO, intO, eqO, neO, dep, depL, eqD, eqL, ltO, leO, gtO, geO, isO, isnO, catL, dIn, dGet, sDict, sSetM, sDnew, sDput, allO, anyO, isiO, mulT, iS, asS, slD, slF, cutD, Option.bind_some, Option.bind_none, Option.map_some, Option.map_none, List.getElem?_cons_zero, List.getElem?_cons_succ, List.getElem?_nil, List.set_cons_zero, List.set_cons_succ, List.length_cons, List.length_nil, List.map_cons, List.map_nil, List.cons_append, List.nil_append, List.append_nil, List.replicate_succ, List.replicate_zero, Nat.reduceAdd, Nat.reduceSub, Nat.reduceLeDiff, Nat.reduceLT, if_true, if_false, ite_true, ite_false, true_and, and_true, Bool.false_eq_true, decide_true, decide_false, Bool.not_true, Bool.not_false, List.range_zero, Int.toNat_zero, List.length_map, List.length_append, List.length_replicate, Nat.zero_add, Int.zero_add, reduceIte, reduceCtorEq, Int.reduceLT, Int.reduceLE, Int.reducePow, Int.reduceNeg, Int.reduceMul, Int.reduceAdd, Int.reduceSub, Int.reduceToNat, true_or, or_true, and_self, or_self, Bool.and_self, Bool.true_and, Bool.and_true, Bool.true_or, Bool.or_true, Bool.false_and, Bool.false_or, Nat.reduceMul, Nat.reducePow, Int.reduceEq, Nat.reduceEqDiff, Int.natCast_zero, Int.cast_ofNat_Int, Int.ofNat_eq_natCast, Int.natCast_one, r2, r3, List.range_one, Int.toNat_one, m_late, m_mix, e, hW, hs, ho, hr, hl, e1]
  | false =>
    refine' ⟨_, ?h, ?l, ?g⟩
    case h =>
      simp (config := { decide := true }) only [m_law_told_on, F_law_told_on, B_law_told_on_1, B_law_told_on_2, runD, sRet, sq, sIf, bB, b1, b2, b3, b1F, b2F, b3S, vget, rget, gL, gM, vAnd, vOr, vNot, bAnd, bOr, bNot, bTru, truD, asB, asI, oI, aCons, sSet, sSetL, sAsg, gN, gNl, gCs, gT, sFor, forD, sWhile, sComp, compL, iL, iT, iR1, iR2, iEn, enumF, asL, asT, rng, RD.inR, sApp, sSetIx, frz, addO, subO, mulO, modO, fdivO, negO, ixO, atI, ixN, lenO, tupO, lstO, intO, eqO, neO, dep, depL, eqD, eqL, ltO, leO, gtO, geO, isO, isnO, catL, dIn, dGet, sDict, sSetM, sDnew, sDput, allO, anyO, isiO, mulT, iS, asS, slD, slF, cutD, Option.bind_some, Option.bind_none, Option.map_some, Option.map_none, List.getElem?_cons_zero, List.getElem?_cons_succ, List.getElem?_nil, List.set_cons_zero, List.set_cons_succ, List.length_cons, List.length_nil, List.map_cons, List.map_nil, List.cons_append, List.nil_append, List.append_nil, List.replicate_succ, List.replicate_zero, Nat.reduceAdd, Nat.reduceSub, Nat.reduceLeDiff, Nat.reduceLT, if_true, if_false, ite_true, ite_false, true_and, and_true, Bool.false_eq_true, decide_true, decide_false, Bool.not_true, Bool.not_false, List.range_zero, Int.toNat_zero, List.length_map, List.length_append, List.length_replicate, Nat.zero_add, Int.zero_add, reduceIte, reduceCtorEq, Int.reduceLT, Int.reduceLE, Int.reducePow, Int.reduceNeg, Int.reduceMul, Int.reduceAdd, Int.reduceSub, Int.reduceToNat, true_or, or_true, and_self, or_self, Bool.and_self, Bool.true_and, Bool.and_true, Bool.true_or, Bool.or_true, Bool.false_and, Bool.false_or, Nat.reduceMul, Nat.reducePow, Int.reduceEq, Nat.reduceEqDiff, Int.natCast_zero, Int.cast_ofNat_Int, Int.ofNat_eq_natCast, Int.natCast_one, r2, r3, List.range_one, Int.toNat_one, m_late, m_mix, e, hW, hs, ho, hr, hl]
      rfl
    case l => rfl
    case g =>
      simp only [List.length_cons, List.length_nil]
      refine Good.t2 h1 q0 n0 hsr hw0 hw1 (by simp; try omega) (by simp; try omega) ?_
      refine Good.t1 h1 q1 n1 hw0 (by simp; try omega) ?_
      refine Good.t1 h1 q2 n2 hw0 (by simp; try omega) ?_
      refine Good.t1 h1 q1 n1 hw1 (by simp; try omega) ?_
      refine Good.t1 h1 q2 n2 hw1 (by simp; try omega) ?_
      exact Good.nil
theorem told_4_3 (c st g0 g1 g2 : Int) (e : mix c 9949 3 = 2) :
    ∃ ds, m_law_told_on [.int c, .int st, .int 4, .lst [.int g0, .int g1, .int g2]] = some (.lst ds) ∧ (ds.length : Int) = 1 + 3 * (2 + b2i (late c 4)) ∧ Good 4 (fun n => (st < n ∧ n < st + (ds.length : Int)) ∨ n = g0 ∨ n = g1 ∨ n = g2) ds := by
  obtain ⟨W, hO, hW, n01, n02, n12⟩ := words_ex c
  have hsr : Rising (sortS [W 0, W 1, W 2]) := sortS_rising (by simp [n01, n02, n12])
  have hsl := len_sortS (l := [W 0, W 1, W 2])
  have hsm : ∀ w ∈ sortS [W 0, W 1, W 2], okW w := fun w hw => by
    have := mem_sortS.mp hw
    simp only [List.mem_cons, List.not_mem_nil, or_false] at this
    rcases this with rfl | rfl | rfl <;> exact hO _
  have hs := sort_strs (l := [W 0, W 1, W 2]) (by simp)
  obtain ⟨w0, w1, w2, ew⟩ := len3 hsl
  rw [ew] at hsr hsm hs
  simp only [List.map_cons, List.map_nil] at hs
  have hw0 := hsm w0 (by simp)
  have hw1 := hsm w1 (by simp)
  have hw2 := hsm w2 (by simp)
  have a0 := mix_nn c 9929 (m := 4) (by decide)
  have a1 := mix_lt c 9929 (m := 4) (by decide)
  have b0 := mix_nn c 9901 (m := 3) (by decide)
  have b1 := mix_lt c 9901 (m := 3) (by decide)
  generalize ho : mix c 9929 4 = one at a0 a1
  generalize hr : mix c 9901 3 = r at b0 b1
  have q0 : 0 ≤ (one + 1 + r % 3) % 4 ∧ (one + 1 + r % 3) % 4 < 4 := by omega
  have n0 : one ≠ (one + 1 + r % 3) % 4 := by omega
  have q1 : 0 ≤ (one + 1 + (1 + r) % 3) % 4 ∧ (one + 1 + (1 + r) % 3) % 4 < 4 := by omega
  have n1 : one ≠ (one + 1 + (1 + r) % 3) % 4 := by omega
  have q2 : 0 ≤ (one + 1 + (2 + r) % 3) % 4 ∧ (one + 1 + (2 + r) % 3) % 4 < 4 := by omega
  have n2 : one ≠ (one + 1 + (2 + r) % 3) % 4 := by omega
  have h1 : 0 ≤ one ∧ one < 4 := ⟨a0, a1⟩
  cases hl : late c 4 with
  | true =>
    obtain ⟨ds, e1, e2, e3⟩ := late_3_3 (st := st) (g0 := g0) (g1 := g1) (g2 := g2) (one := one) (o0 := (one + 1 + r % 3) % 4) (o1 := (one + 1 + (1 + r) % 3) % 4) (o2 := (one + 1 + (2 + r) % 3) % 4) hsr hw0 hw1 hw2 h1 q0 q1 q2 n0 n1 (by omega) (by omega)
    refine ⟨ds, ?_, by rw [e2]; rfl, by rw [e2]; exact e3⟩
    simp (config := { decide := true }) only [m_law_told_on, F_law_told_on, B_law_told_on_1, B_law_told_on_2, runD, sRet, sq, sIf, bB, b1, b2, b3, b1F, b2F, b3S, vget, rget, gL, gM, vAnd, vOr, vNot, bAnd, bOr, bNot, bTru, truD, asB, asI, oI, aCons, sSet, sSetL, sAsg, gN, gNl, gCs, gT, sFor, forD, sWhile, sComp, compL, iL, iT, iR1, iR2, iEn, enumF, asL, asT, rng, RD.inR, sApp, sSetIx, frz, addO, subO, mulO, modO, fdivO, negO, ixO, atI, ixN, lenO, tupO, lstO, intO, eqO, neO, dep, depL, eqD, eqL, ltO, leO, gtO, geO, isO, isnO, catL, dIn, dGet, sDict, sSetM, sDnew, sDput, allO, anyO, isiO, mulT, iS, asS, slD, slF, cutD, Option.bind_some, Option.bind_none, Option.map_some, Option.map_none, List.getElem?_cons_zero, List.getElem?_cons_succ, List.getElem?_nil, List.set_cons_zero, List.set_cons_succ, List.length_cons, List.length_nil, List.map_cons, List.map_nil, List.cons_append, List.nil_append, List.append_nil, List.replicate_succ, List.replicate_zero, Nat.reduceAdd, Nat.reduceSub, Nat.reduceLeDiff, Nat.reduceLT, if_true, if_false, ite_true, ite_false, true_and, and_true, Bool.false_eq_true, decide_true, decide_false, Bool.not_true, Bool.not_false, List.range_zero, Int.toNat_zero, List.length_map, List.length_append, List.length_replicate, Nat.zero_add, Int.zero_add, reduceIte, reduceCtorEq, Int.reduceLT, Int.reduceLE, Int.reducePow, Int.reduceNeg, Int.reduceMul, Int.reduceAdd, Int.reduceSub, Int.reduceToNat, true_or, or_true, and_self, or_self, Bool.and_self, Bool.true_and, Bool.and_true, Bool.true_or, Bool.or_true, Bool.false_and, Bool.false_or, Nat.reduceMul, Nat.reducePow, Int.reduceEq, Nat.reduceEqDiff, Int.natCast_zero, Int.cast_ofNat_Int, Int.ofNat_eq_natCast, Int.natCast_one, r2, r3, List.range_one, Int.toNat_one, m_late, m_mix, e, hW, hs, ho, hr, hl, e1]
  | false =>
    refine' ⟨_, ?h, ?l, ?g⟩
    case h =>
      simp (config := { decide := true }) only [m_law_told_on, F_law_told_on, B_law_told_on_1, B_law_told_on_2, runD, sRet, sq, sIf, bB, b1, b2, b3, b1F, b2F, b3S, vget, rget, gL, gM, vAnd, vOr, vNot, bAnd, bOr, bNot, bTru, truD, asB, asI, oI, aCons, sSet, sSetL, sAsg, gN, gNl, gCs, gT, sFor, forD, sWhile, sComp, compL, iL, iT, iR1, iR2, iEn, enumF, asL, asT, rng, RD.inR, sApp, sSetIx, frz, addO, subO, mulO, modO, fdivO, negO, ixO, atI, ixN, lenO, tupO, lstO, intO, eqO, neO, dep, depL, eqD, eqL, ltO, leO, gtO, geO, isO, isnO, catL, dIn, dGet, sDict, sSetM, sDnew, sDput, allO, anyO, isiO, mulT, iS, asS, slD, slF, cutD, Option.bind_some, Option.bind_none, Option.map_some, Option.map_none, List.getElem?_cons_zero, List.getElem?_cons_succ, List.getElem?_nil, List.set_cons_zero, List.set_cons_succ, List.length_cons, List.length_nil, List.map_cons, List.map_nil, List.cons_append, List.nil_append, List.append_nil, List.replicate_succ, List.replicate_zero, Nat.reduceAdd, Nat.reduceSub, Nat.reduceLeDiff, Nat.reduceLT, if_true, if_false, ite_true, ite_false, true_and, and_true, Bool.false_eq_true, decide_true, decide_false, Bool.not_true, Bool.not_false, List.range_zero, Int.toNat_zero, List.length_map, List.length_append, List.length_replicate, Nat.zero_add, Int.zero_add, reduceIte, reduceCtorEq, Int.reduceLT, Int.reduceLE, Int.reducePow, Int.reduceNeg, Int.reduceMul, Int.reduceAdd, Int.reduceSub, Int.reduceToNat, true_or, or_true, and_self, or_self, Bool.and_self, Bool.true_and, Bool.and_true, Bool.true_or, Bool.or_true, Bool.false_and, Bool.false_or, Nat.reduceMul, Nat.reducePow, Int.reduceEq, Nat.reduceEqDiff, Int.natCast_zero, Int.cast_ofNat_Int, Int.ofNat_eq_natCast, Int.natCast_one, r2, r3, List.range_one, Int.toNat_one, m_late, m_mix, e, hW, hs, ho, hr, hl]
      rfl
    case l => rfl
    case g =>
      simp only [List.length_cons, List.length_nil]
      refine Good.t3 h1 q0 n0 hsr hw0 hw1 hw2 (by simp; try omega) (by simp; try omega) (by simp; try omega) ?_
      refine Good.t1 h1 q1 n1 hw0 (by simp; try omega) ?_
      refine Good.t1 h1 q2 n2 hw0 (by simp; try omega) ?_
      refine Good.t1 h1 q1 n1 hw1 (by simp; try omega) ?_
      refine Good.t1 h1 q2 n2 hw1 (by simp; try omega) ?_
      refine Good.t1 h1 q1 n1 hw2 (by simp; try omega) ?_
      refine Good.t1 h1 q2 n2 hw2 (by simp; try omega) ?_
      exact Good.nil
end LG

set_option Elab.async false
set_option linter.all false
set_option maxRecDepth 100000
set_option maxHeartbeats 4000000
namespace LG
open PySem L2 RD
theorem told_ok (c st g0 g1 g2 m : Int) (hm : m = 2 ∨ m = 3 ∨ m = 4) :
    ∃ ds, m_law_told_on [.int c, .int st, .int m, .lst [.int g0, .int g1, .int g2]] = some (.lst ds) ∧ (ds.length : Int) = 1 + (1 + mix c 9949 3) * (m - 2 + b2i (late c m)) ∧ Good m (fun n => (st < n ∧ n < st + (ds.length : Int)) ∨ n = g0 ∨ n = g1 ∨ n = g2) ds := by
  have h1 := mix_nn c 9949 (m := 3) (by decide)
  have h2 := mix_lt c 9949 (m := 3) (by decide)
  have cs : mix c 9949 3 = 0 ∨ mix c 9949 3 = 1 ∨ mix c 9949 3 = 2 := by omega
  rcases hm with rfl | rfl | rfl <;> rcases cs with e | e | e <;> rw [e]
  · exact told_2_1 c st g0 g1 g2 e
  · exact told_2_2 c st g0 g1 g2 e
  · exact told_2_3 c st g0 g1 g2 e
  · exact told_3_1 c st g0 g1 g2 e
  · exact told_3_2 c st g0 g1 g2 e
  · exact told_3_3 c st g0 g1 g2 e
  · exact told_4_1 c st g0 g1 g2 e
  · exact told_4_2 c st g0 g1 g2 e
  · exact told_4_3 c st g0 g1 g2 e
def sizeI (c m : Int) : Int := 1 + (1 + mix c 9949 3) * (m - 2 + b2i (late c m)) + b2i (decide (0 < mix c 9931 3))
theorem m_size {c m : Int} (hm : m = 2 ∨ m = 3 ∨ m = 4) : m_law_size [.int c, .int m] = some (.int (sizeI c m)) := by
  have h1 := mix_nn c 9949 (m := 3) (by decide)
  have h2 := mix_lt c 9949 (m := 3) (by decide)
  have h3 : -18446744073709551616 < 1 + mix c 9949 3 := by omega
  have h4 : 1 + mix c 9949 3 < 18446744073709551616 := by omega
  simp only [m_law_size, F_law_size, runD, sRet, sq, sIf, bB, b1, b2, b3, b1F, b2F, b3S, vget, rget, gL, gM, vAnd, vOr, vNot, bAnd, bOr, bNot, bTru, truD, asB, asI, oI, aCons, sSet, sSetL, sAsg, gN, gNl, gCs, gT, sFor, forD, sWhile, sComp, compL, iL, iT, iR1, iR2, iEn, enumF, asL, asT, rng, RD.inR, sApp, sSetIx, frz, addO, subO, mulO, modO, fdivO, negO, ixO, atI, ixN, lenO, tupO, lstO, intO, eqO, neO, dep, depL, eqD, eqL, ltO, leO, gtO, geO, isO, isnO, catL, dIn, dGet, sDict, sSetM, sDnew, sDput, allO, anyO, isiO, mulT, iS, asS, slD, slF, cutD, Option.bind_some, Option.bind_none, Option.map_some, Option.map_none, List.getElem?_cons_zero, List.getElem?_cons_succ, List.getElem?_nil, List.set_cons_zero, List.set_cons_succ, List.length_cons, List.length_nil, List.map_cons, List.map_nil, List.cons_append, List.nil_append, List.append_nil, List.replicate_succ, List.replicate_zero, Nat.reduceAdd, Nat.reduceSub, Nat.reduceLeDiff, Nat.reduceLT, if_true, if_false, ite_true, ite_false, true_and, and_true, Bool.false_eq_true, decide_true, decide_false, Bool.not_true, Bool.not_false, List.range_zero, Int.toNat_zero, List.length_map, List.length_append, List.length_replicate, Nat.zero_add, Int.zero_add, reduceIte, reduceCtorEq, Int.reduceLT, Int.reduceLE, Int.reducePow, Int.reduceNeg, Int.reduceMul, Int.reduceAdd, Int.reduceSub, Int.reduceToNat, true_or, or_true, and_self, or_self, Bool.and_self, Bool.true_and, Bool.and_true, Bool.true_or, Bool.or_true, Bool.false_and, Bool.false_or, Nat.reduceMul, Nat.reducePow, Int.reduceEq, Nat.reduceEqDiff, Int.natCast_zero, Int.cast_ofNat_Int, Int.ofNat_eq_natCast, m_late, m_mix, sizeI, b2i, h3, h4, decide_eq_true_eq]
theorem two_ok (c here goal m : Int) (hm : m = 2 ∨ m = 3 ∨ m = 4) : ∃ d, m_law_apart_two [.int c, .int here, .int m, .int goal] = some d ∧ Good m (fun n => n = here ∨ n = goal) [d] := by
  obtain ⟨W, hO, hW, n01, n02, n12⟩ := words_ex (c + 1)
  have hsr : Rising (sortS [W 0, W 1]) := sortS_rising (by simp [n01])
  have hsl := len_sortS (l := [W 0, W 1])
  have hsm : ∀ w ∈ sortS [W 0, W 1], okW w := fun w hw => by
    have := mem_sortS.mp hw
    simp only [List.mem_cons, List.not_mem_nil, or_false] at this
    rcases this with rfl | rfl <;> exact hO _
  have hs := sort_strs (l := [W 0, W 1]) (by simp)
  obtain ⟨w0, w1, ew⟩ := len2 hsl
  rw [ew] at hsr hsm hs
  simp only [List.map_cons, List.map_nil] at hs
  have hw0 := hsm w0 (by simp)
  have hw1 := hsm w1 (by simp)
  have m0 : 0 < m := by omega
  have m1 : 0 < m - 1 := by omega
  have a0 := mix_nn c 9871 m0
  have a1 := mix_lt c 9871 m0
  have b0 := mix_nn c 9859 m1
  have b1 := mix_lt c 9859 m1
  generalize ho : mix c 9871 m = one at a0 a1
  generalize hr : mix c 9859 (m - 1) = r at b0 b1
  have h1 : 0 ≤ one ∧ one < m := ⟨a0, a1⟩
  have q0 : 0 ≤ (one + 1 + r) % m ∧ (one + 1 + r) % m < m := ⟨Int.emod_nonneg _ (by omega), Int.emod_lt_of_pos _ m0⟩
  have n0 : one ≠ (one + 1 + r) % m := by rcases hm with rfl | rfl | rfl <;> omega
  have cp : c % 2 = 0 ∨ c % 2 = 1 := by omega
  by_cases e : mix c 9931 3 = 1
  · refine' ⟨_, ?h1, ?g1⟩
    case h1 =>
      simp (config := { decide := true }) only [m_law_apart_two, F_law_apart_two, runD, sRet, sq, sIf, bB, b1, b2, b3, b1F, b2F, b3S, vget, rget, gL, gM, vAnd, vOr, vNot, bAnd, bOr, bNot, bTru, truD, asB, asI, oI, aCons, sSet, sSetL, sAsg, gN, gNl, gCs, gT, sFor, forD, sWhile, sComp, compL, iL, iT, iR1, iR2, iEn, enumF, asL, asT, rng, RD.inR, sApp, sSetIx, frz, addO, subO, mulO, modO, fdivO, negO, ixO, atI, ixN, lenO, tupO, lstO, intO, eqO, neO, dep, depL, eqD, eqL, ltO, leO, gtO, geO, isO, isnO, catL, dIn, dGet, sDict, sSetM, sDnew, sDput, allO, anyO, isiO, mulT, iS, asS, slD, slF, cutD, Option.bind_some, Option.bind_none, Option.map_some, Option.map_none, List.getElem?_cons_zero, List.getElem?_cons_succ, List.getElem?_nil, List.set_cons_zero, List.set_cons_succ, List.length_cons, List.length_nil, List.map_cons, List.map_nil, List.cons_append, List.nil_append, List.append_nil, List.replicate_succ, List.replicate_zero, Nat.reduceAdd, Nat.reduceSub, Nat.reduceLeDiff, Nat.reduceLT, if_true, if_false, ite_true, ite_false, true_and, and_true, Bool.false_eq_true, decide_true, decide_false, Bool.not_true, Bool.not_false, List.range_zero, Int.toNat_zero, List.length_map, List.length_append, List.length_replicate, Nat.zero_add, Int.zero_add, reduceIte, reduceCtorEq, Int.reduceLT, Int.reduceLE, Int.reducePow, Int.reduceNeg, Int.reduceMul, Int.reduceAdd, Int.reduceSub, Int.reduceToNat, true_or, or_true, and_self, or_self, Bool.and_self, Bool.true_and, Bool.and_true, Bool.true_or, Bool.or_true, Bool.false_and, Bool.false_or, Nat.reduceMul, Nat.reducePow, Int.reduceEq, Nat.reduceEqDiff, Int.natCast_zero, Int.cast_ofNat_Int, Int.ofNat_eq_natCast, m_mix, m0, m1, hW, hs, ho, hr, e, beq_iff_eq, beq_self_eq_true]
      rfl
    case g1 => exact Good.t1 h1 q0 n0 hw0 (by simp) Good.nil
  · rcases cp with cp | cp
    · refine' ⟨_, ?h1, ?g1⟩
      case h1 =>
        simp (config := { decide := true }) only [m_law_apart_two, F_law_apart_two, runD, sRet, sq, sIf, bB, b1, b2, b3, b1F, b2F, b3S, vget, rget, gL, gM, vAnd, vOr, vNot, bAnd, bOr, bNot, bTru, truD, asB, asI, oI, aCons, sSet, sSetL, sAsg, gN, gNl, gCs, gT, sFor, forD, sWhile, sComp, compL, iL, iT, iR1, iR2, iEn, enumF, asL, asT, rng, RD.inR, sApp, sSetIx, frz, addO, subO, mulO, modO, fdivO, negO, ixO, atI, ixN, lenO, tupO, lstO, intO, eqO, neO, dep, depL, eqD, eqL, ltO, leO, gtO, geO, isO, isnO, catL, dIn, dGet, sDict, sSetM, sDnew, sDput, allO, anyO, isiO, mulT, iS, asS, slD, slF, cutD, Option.bind_some, Option.bind_none, Option.map_some, Option.map_none, List.getElem?_cons_zero, List.getElem?_cons_succ, List.getElem?_nil, List.set_cons_zero, List.set_cons_succ, List.length_cons, List.length_nil, List.map_cons, List.map_nil, List.cons_append, List.nil_append, List.append_nil, List.replicate_succ, List.replicate_zero, Nat.reduceAdd, Nat.reduceSub, Nat.reduceLeDiff, Nat.reduceLT, if_true, if_false, ite_true, ite_false, true_and, and_true, Bool.false_eq_true, decide_true, decide_false, Bool.not_true, Bool.not_false, List.range_zero, Int.toNat_zero, List.length_map, List.length_append, List.length_replicate, Nat.zero_add, Int.zero_add, reduceIte, reduceCtorEq, Int.reduceLT, Int.reduceLE, Int.reducePow, Int.reduceNeg, Int.reduceMul, Int.reduceAdd, Int.reduceSub, Int.reduceToNat, true_or, or_true, and_self, or_self, Bool.and_self, Bool.true_and, Bool.and_true, Bool.true_or, Bool.or_true, Bool.false_and, Bool.false_or, Nat.reduceMul, Nat.reducePow, Int.reduceEq, Nat.reduceEqDiff, Int.natCast_zero, Int.cast_ofNat_Int, Int.ofNat_eq_natCast, m_mix, m0, m1, hW, hs, ho, hr, beq_iff_eq, beq_self_eq_true, cp, (beq_eq_false_iff_ne.mpr e)]
        rfl
      case g1 => exact Good.t2 h1 q0 n0 hsr hw0 hw1 (by simp) (by simp) Good.nil
    · refine' ⟨_, ?h1, ?g1⟩
      case h1 =>
        simp (config := { decide := true }) only [m_law_apart_two, F_law_apart_two, runD, sRet, sq, sIf, bB, b1, b2, b3, b1F, b2F, b3S, vget, rget, gL, gM, vAnd, vOr, vNot, bAnd, bOr, bNot, bTru, truD, asB, asI, oI, aCons, sSet, sSetL, sAsg, gN, gNl, gCs, gT, sFor, forD, sWhile, sComp, compL, iL, iT, iR1, iR2, iEn, enumF, asL, asT, rng, RD.inR, sApp, sSetIx, frz, addO, subO, mulO, modO, fdivO, negO, ixO, atI, ixN, lenO, tupO, lstO, intO, eqO, neO, dep, depL, eqD, eqL, ltO, leO, gtO, geO, isO, isnO, catL, dIn, dGet, sDict, sSetM, sDnew, sDput, allO, anyO, isiO, mulT, iS, asS, slD, slF, cutD, Option.bind_some, Option.bind_none, Option.map_some, Option.map_none, List.getElem?_cons_zero, List.getElem?_cons_succ, List.getElem?_nil, List.set_cons_zero, List.set_cons_succ, List.length_cons, List.length_nil, List.map_cons, List.map_nil, List.cons_append, List.nil_append, List.append_nil, List.replicate_succ, List.replicate_zero, Nat.reduceAdd, Nat.reduceSub, Nat.reduceLeDiff, Nat.reduceLT, if_true, if_false, ite_true, ite_false, true_and, and_true, Bool.false_eq_true, decide_true, decide_false, Bool.not_true, Bool.not_false, List.range_zero, Int.toNat_zero, List.length_map, List.length_append, List.length_replicate, Nat.zero_add, Int.zero_add, reduceIte, reduceCtorEq, Int.reduceLT, Int.reduceLE, Int.reducePow, Int.reduceNeg, Int.reduceMul, Int.reduceAdd, Int.reduceSub, Int.reduceToNat, true_or, or_true, and_self, or_self, Bool.and_self, Bool.true_and, Bool.and_true, Bool.true_or, Bool.or_true, Bool.false_and, Bool.false_or, Nat.reduceMul, Nat.reducePow, Int.reduceEq, Nat.reduceEqDiff, Int.natCast_zero, Int.cast_ofNat_Int, Int.ofNat_eq_natCast, m_mix, m0, m1, hW, hs, ho, hr, beq_iff_eq, beq_self_eq_true, cp, (beq_eq_false_iff_ne.mpr e)]
        rfl
      case g1 => exact Good.t2 h1 q0 n0 hsr hw0 hw1 (by simp) (by simp) Good.nil
end LG

set_option Elab.async false
set_option linter.all false
set_option maxRecDepth 100000
set_option maxHeartbeats 8000000
namespace LG
open PySem L2 RD
theorem at0 {α : Type} {a : α} {l : List α} : atI (a :: l) 0 = some a := by simp [atI, ixN]
theorem at1 {α : Type} {a b : α} {l : List α} : atI (a :: b :: l) 1 = some b := by
  unfold atI ixN
  rw [if_pos (by decide), if_pos (by simp; omega)]
  rfl
theorem at2 {α : Type} {a b c : α} {l : List α} : atI (a :: b :: c :: l) 2 = some c := by
  unfold atI ixN
  rw [if_pos (by decide), if_pos (by simp; omega)]
  rfl
theorem at3 {α : Type} {a b c d : α} {l : List α} : atI (a :: b :: c :: d :: l) 3 = some d := by
  unfold atI ixN
  rw [if_pos (by decide), if_pos (by simp; omega)]
  rfl
theorem atm1 {α : Type} {a : α} : atI [a] (-1) = some a := rfl
theorem atm2 {α : Type} {a b : α} : atI [a, b] (-1) = some b := rfl
theorem atm3 {α : Type} {a b c : α} : atI [a, b, c] (-1) = some c := rfl
theorem ix30 : ixN 3 0 = some 0 := rfl
theorem pick2 {a b : Int} {i : Int} (k : a ≤ b) (h0 : 0 ≤ i) (h1 : i < 2) : ∃ g, atI [D.int a, D.int b] i = some (.int g) ∧ a ≤ g ∧ g ≤ b := by
  have : i = 0 ∨ i = 1 := by omega
  rcases this with rfl | rfl
  · exact ⟨a, at0, by omega, by omega⟩
  · exact ⟨b, at1, by omega, by omega⟩
theorem pick3 {a b c : Int} {i : Int} (k : a ≤ b ∧ b ≤ c) (h0 : 0 ≤ i) (h1 : i < 3) : ∃ g, atI [D.int a, D.int b, D.int c] i = some (.int g) ∧ a ≤ g ∧ g ≤ c := by
  have : i = 0 ∨ i = 1 ∨ i = 2 := by omega
  rcases this with rfl | rfl | rfl
  · exact ⟨a, at0, by omega, by omega⟩
  · exact ⟨b, at1, by omega, by omega⟩
  · exact ⟨c, at2, by omega, by omega⟩
theorem pick4 {a b c d : Int} {i : Int} (k : a ≤ b ∧ b ≤ c ∧ c ≤ d) (h0 : 0 ≤ i) (h1 : i < 4) : ∃ g, atI [D.int a, D.int b, D.int c, D.int d] i = some (.int g) ∧ a ≤ g ∧ g ≤ d := by
  have : i = 0 ∨ i = 1 ∨ i = 2 ∨ i = 3 := by omega
  rcases this with rfl | rfl | rfl | rfl
  · exact ⟨a, at0, by omega, by omega⟩
  · exact ⟨b, at1, by omega, by omega⟩
  · exact ⟨c, at2, by omega, by omega⟩
  · exact ⟨d, at3, by omega, by omega⟩
theorem size_len {c m : Int} {n : Nat} (hm : m = 2 ∨ m = 3 ∨ m = 4) (h : (n : Int) = 1 + (1 + mix c 9949 3) * (m - 2 + b2i (late c m))) : 1 ≤ (n : Int) ∧ (n : Int) ≤ 10 ∧ sizeI c m = (n : Int) + b2i (decide (0 < mix c 9931 3)) := by
  have h1 := mix_nn c 9949 (m := 3) (by decide)
  have h2 := mix_lt c 9949 (m := 3) (by decide)
  refine ⟨?_, ?_, by rw [h]; rfl⟩
  all_goals
    rw [h]
    have cs : mix c 9949 3 = 0 ∨ mix c 9949 3 = 1 ∨ mix c 9949 3 = 2 := by omega
    have bs : b2i (late c m) = 0 ∨ b2i (late c m) = 1 := by unfold b2i; split <;> simp
    rcases hm with rfl | rfl | rfl <;> rcases cs with e | e | e <;> rcases bs with e' | e' <;> rw [e, e'] <;> decide
theorem size_pos {c m : Int} (hm : m = 2 ∨ m = 3 ∨ m = 4) : 1 ≤ sizeI c m := by
  obtain ⟨ds, _, l, _⟩ := told_ok c 0 0 0 0 m hm
  obtain ⟨a, b, e⟩ := size_len hm l
  have : 0 ≤ b2i (decide (0 < mix c 9931 3)) := by unfold b2i; split <;> decide
  omega
theorem dance_1_0 {ns : List Int} {m : Int} (hm : m = 2 ∨ m = 3 ∨ m = 4) (em : 2 + mix (ns.getD 0 0) 9973 3 = m) (er : mix (ns.getD 0 0) 9967 3 = 0) (t1 : ¬ 0 < mix (ns.getD 1 0) 9931 3) :
    ∃ ds, m_law_dance [.lst (ns.map D.int)] = some (.tup [.int m, .tup (ds ++ [.tup [.str "end"]])]) ∧ 1 ≤ ds.length ∧ ds.length ≤ 39 ∧ Good m (fun n => 0 ≤ n ∧ n < (ds.length : Int) + 1) ds := by
  have k0 : m_law_cell [.lst (ns.map D.int), .int 0] = some (.int (ns.getD 0 0)) := m_cell (by decide)
  have k1 : m_law_cell [.lst (ns.map D.int), .int 1] = some (.int (ns.getD 1 0)) := m_cell (by decide)
  generalize ns.getD 0 0 = c0 at k0 em er
  generalize ns.getD 1 0 = c1 at k1 t1
  have z1 := m_size (c := c1) hm
  have zp1 := size_pos (c := c1) hm
  obtain ⟨g00, p00, u00⟩ := pick2 (a := 0) (b := sizeI c1 m) (by omega) (mix_nn (c1 + 0) 9907 (m := 2) (by decide)) (mix_lt (c1 + 0) 9907 (m := 2) (by decide))
  obtain ⟨g01, p01, u01⟩ := pick2 (a := 0) (b := sizeI c1 m) (by omega) (mix_nn (c1 + 7) 9907 (m := 2) (by decide)) (mix_lt (c1 + 7) 9907 (m := 2) (by decide))
  obtain ⟨g02, p02, u02⟩ := pick2 (a := 0) (b := sizeI c1 m) (by omega) (mix_nn (c1 + 14) 9907 (m := 2) (by decide)) (mix_lt (c1 + 14) 9907 (m := 2) (by decide))
  obtain ⟨d0, e0, l0, G0⟩ := told_ok c1 (0) g00 g01 g02 m hm
  obtain ⟨y00, y01, y02⟩ := size_len hm l0
  have v0 : b2i (decide (0 < mix c1 9931 3)) = 0 := by simp [b2i, t1]
  rw [v0] at y02
  have q0 : d0.length ≤ 10 := by omega
  refine ⟨(d0), ?_, by first | omega | (simp; omega) | simp, by first | omega | (simp; omega) | simp, ?_⟩
  · have B : ∀ n : Nat, n ≤ 40 → n ≤ 1000000 := fun n _ => by omega
    have s0 : d0.length ≤ 1000000 := by omega
    have s1 : d0.length + 1 ≤ 1000000 := by omega
    have s2 : d0.length ≤ 999999 := by omega
    simp (config := { decide := true }) only [m_law_dance, F_law_dance, B_law_dance_1, B_law_dance_2, runD, sRet, sq, sIf, bB, b1, b2, b3, b1F, b2F, b3S, vget, rget, gL, gM, vAnd, vOr, vNot, bAnd, bOr, bNot, bTru, truD, asB, asI, oI, aCons, sSet, sSetL, sAsg, gN, gNl, gCs, gT, sFor, forD, sWhile, sComp, compL, iL, iT, iR1, iR2, iEn, enumF, asL, asT, rng, RD.inR, sApp, sSetIx, frz, addO, subO, mulO, modO, fdivO, negO, ixO, lenO, tupO, lstO, intO, eqO, neO, dep, depL, eqD, eqL, ltO, leO, gtO, geO, isO, isnO, catL, dIn, dGet, sDict, sSetM, sDnew, sDput, allO, anyO, isiO, mulT, iS, asS, slD, slF, cutD, Option.bind_some, Option.bind_none, Option.map_some, Option.map_none, List.getElem?_cons_zero, List.getElem?_cons_succ, List.getElem?_nil, List.set_cons_zero, List.set_cons_succ, List.length_cons, List.length_nil, List.map_cons, List.map_nil, List.cons_append, List.nil_append, List.append_nil, List.replicate_succ, List.replicate_zero, Nat.reduceAdd, Nat.reduceSub, Nat.reduceLeDiff, Nat.reduceLT, if_true, if_false, ite_true, ite_false, true_and, and_true, Bool.false_eq_true, decide_true, decide_false, Bool.not_true, Bool.not_false, List.range_zero, Int.toNat_zero, List.length_map, List.length_append, List.length_replicate, Nat.zero_add, Int.zero_add, reduceIte, reduceCtorEq, Int.reduceLT, Int.reduceLE, Int.reducePow, Int.reduceNeg, Int.reduceMul, Int.reduceAdd, Int.reduceSub, Int.reduceToNat, true_or, or_true, and_self, or_self, Bool.and_self, Bool.true_and, Bool.and_true, Bool.true_or, Bool.or_true, Bool.false_and, Bool.false_or, Nat.reduceMul, Nat.reducePow, Int.reduceEq, Nat.reduceEqDiff, Int.natCast_zero, Int.cast_ofNat_Int, Int.ofNat_eq_natCast, Int.natCast_one, r2, r3, List.range_one, Int.toNat_one, at0, at1, at2, at3, atm1, atm2, atm3, ix30, Int.add_assoc, decide_eq_true_eq, m_mix, em, er, e0, z1, k0, k1, t1, p00, p01, p02, s0, s1, s2]
  · have L : ((d0).length : Int) = (d0.length : Int) := by first | omega | (simp; omega) | simp
    rw [L]
    exact (G0.mono fun n h => by omega)
theorem dance_1_1 {ns : List Int} {m : Int} (hm : m = 2 ∨ m = 3 ∨ m = 4) (em : 2 + mix (ns.getD 0 0) 9973 3 = m) (er : mix (ns.getD 0 0) 9967 3 = 0) (t1 :  0 < mix (ns.getD 1 0) 9931 3) :
    ∃ ds, m_law_dance [.lst (ns.map D.int)] = some (.tup [.int m, .tup (ds ++ [.tup [.str "end"]])]) ∧ 1 ≤ ds.length ∧ ds.length ≤ 39 ∧ Good m (fun n => 0 ≤ n ∧ n < (ds.length : Int) + 1) ds := by
  have k0 : m_law_cell [.lst (ns.map D.int), .int 0] = some (.int (ns.getD 0 0)) := m_cell (by decide)
  have k1 : m_law_cell [.lst (ns.map D.int), .int 1] = some (.int (ns.getD 1 0)) := m_cell (by decide)
  generalize ns.getD 0 0 = c0 at k0 em er
  generalize ns.getD 1 0 = c1 at k1 t1
  have z1 := m_size (c := c1) hm
  have zp1 := size_pos (c := c1) hm
  obtain ⟨g00, p00, u00⟩ := pick2 (a := 0) (b := sizeI c1 m) (by omega) (mix_nn (c1 + 0) 9907 (m := 2) (by decide)) (mix_lt (c1 + 0) 9907 (m := 2) (by decide))
  obtain ⟨g01, p01, u01⟩ := pick2 (a := 0) (b := sizeI c1 m) (by omega) (mix_nn (c1 + 7) 9907 (m := 2) (by decide)) (mix_lt (c1 + 7) 9907 (m := 2) (by decide))
  obtain ⟨g02, p02, u02⟩ := pick2 (a := 0) (b := sizeI c1 m) (by omega) (mix_nn (c1 + 14) 9907 (m := 2) (by decide)) (mix_lt (c1 + 14) 9907 (m := 2) (by decide))
  obtain ⟨d0, e0, l0, G0⟩ := told_ok c1 (0) (sizeI c1 m - 1) g01 g02 m hm
  obtain ⟨x0, f0, K0⟩ := two_ok c1 (sizeI c1 m - 1) g00 m hm
  obtain ⟨y00, y01, y02⟩ := size_len hm l0
  have v0 : b2i (decide (0 < mix c1 9931 3)) = 1 := by simp [b2i, t1]
  rw [v0] at y02
  have q0 : d0.length ≤ 10 := by omega
  refine ⟨((d0 ++ [x0])), ?_, by first | omega | (simp; omega) | simp, by first | omega | (simp; omega) | simp, ?_⟩
  · have B : ∀ n : Nat, n ≤ 40 → n ≤ 1000000 := fun n _ => by omega
    have s0 : d0.length ≤ 1000000 := by omega
    have s1 : d0.length < 1000000 := by omega
    have s2 : d0.length + 1 + 1 ≤ 1000000 := by omega
    have s3 : d0.length + 1 ≤ 999999 := by omega
    simp (config := { decide := true }) only [m_law_dance, F_law_dance, B_law_dance_1, B_law_dance_2, runD, sRet, sq, sIf, bB, b1, b2, b3, b1F, b2F, b3S, vget, rget, gL, gM, vAnd, vOr, vNot, bAnd, bOr, bNot, bTru, truD, asB, asI, oI, aCons, sSet, sSetL, sAsg, gN, gNl, gCs, gT, sFor, forD, sWhile, sComp, compL, iL, iT, iR1, iR2, iEn, enumF, asL, asT, rng, RD.inR, sApp, sSetIx, frz, addO, subO, mulO, modO, fdivO, negO, ixO, lenO, tupO, lstO, intO, eqO, neO, dep, depL, eqD, eqL, ltO, leO, gtO, geO, isO, isnO, catL, dIn, dGet, sDict, sSetM, sDnew, sDput, allO, anyO, isiO, mulT, iS, asS, slD, slF, cutD, Option.bind_some, Option.bind_none, Option.map_some, Option.map_none, List.getElem?_cons_zero, List.getElem?_cons_succ, List.getElem?_nil, List.set_cons_zero, List.set_cons_succ, List.length_cons, List.length_nil, List.map_cons, List.map_nil, List.cons_append, List.nil_append, List.append_nil, List.replicate_succ, List.replicate_zero, Nat.reduceAdd, Nat.reduceSub, Nat.reduceLeDiff, Nat.reduceLT, if_true, if_false, ite_true, ite_false, true_and, and_true, Bool.false_eq_true, decide_true, decide_false, Bool.not_true, Bool.not_false, List.range_zero, Int.toNat_zero, List.length_map, List.length_append, List.length_replicate, Nat.zero_add, Int.zero_add, reduceIte, reduceCtorEq, Int.reduceLT, Int.reduceLE, Int.reducePow, Int.reduceNeg, Int.reduceMul, Int.reduceAdd, Int.reduceSub, Int.reduceToNat, true_or, or_true, and_self, or_self, Bool.and_self, Bool.true_and, Bool.and_true, Bool.true_or, Bool.or_true, Bool.false_and, Bool.false_or, Nat.reduceMul, Nat.reducePow, Int.reduceEq, Nat.reduceEqDiff, Int.natCast_zero, Int.cast_ofNat_Int, Int.ofNat_eq_natCast, Int.natCast_one, r2, r3, List.range_one, Int.toNat_one, at0, at1, at2, at3, atm1, atm2, atm3, ix30, Int.add_assoc, decide_eq_true_eq, m_mix, em, er, e0, f0, z1, k0, k1, t1, p00, p01, p02, s0, s1, s2, s3]
  · have L : (((d0 ++ [x0])).length : Int) = (d0.length : Int) + 1 := by first | omega | (simp; omega) | simp
    rw [L]
    exact ((G0.mono fun n h => by omega).app (K0.mono fun n h => by omega))
theorem dance_2_00 {ns : List Int} {m : Int} (hm : m = 2 ∨ m = 3 ∨ m = 4) (em : 2 + mix (ns.getD 0 0) 9973 3 = m) (er : mix (ns.getD 0 0) 9967 3 = 1) (t1 : ¬ 0 < mix (ns.getD 1 0) 9931 3) (t2 : ¬ 0 < mix (ns.getD 2 0) 9931 3) :
    ∃ ds, m_law_dance [.lst (ns.map D.int)] = some (.tup [.int m, .tup (ds ++ [.tup [.str "end"]])]) ∧ 1 ≤ ds.length ∧ ds.length ≤ 39 ∧ Good m (fun n => 0 ≤ n ∧ n < (ds.length : Int) + 1) ds := by
  have k0 : m_law_cell [.lst (ns.map D.int), .int 0] = some (.int (ns.getD 0 0)) := m_cell (by decide)
  have k1 : m_law_cell [.lst (ns.map D.int), .int 1] = some (.int (ns.getD 1 0)) := m_cell (by decide)
  have k2 : m_law_cell [.lst (ns.map D.int), .int 2] = some (.int (ns.getD 2 0)) := m_cell (by decide)
  generalize ns.getD 0 0 = c0 at k0 em er
  generalize ns.getD 1 0 = c1 at k1 t1
  generalize ns.getD 2 0 = c2 at k2 t2
  have z1 := m_size (c := c1) hm
  have zp1 := size_pos (c := c1) hm
  have z2 := m_size (c := c2) hm
  have zp2 := size_pos (c := c2) hm
  obtain ⟨g00, p00, u00⟩ := pick3 (a := 0) (b := sizeI c1 m) (c := sizeI c1 m + sizeI c2 m) (by omega) (mix_nn (c1 + 0) 9907 (m := 3) (by decide)) (mix_lt (c1 + 0) 9907 (m := 3) (by decide))
  obtain ⟨g01, p01, u01⟩ := pick3 (a := 0) (b := sizeI c1 m) (c := sizeI c1 m + sizeI c2 m) (by omega) (mix_nn (c1 + 7) 9907 (m := 3) (by decide)) (mix_lt (c1 + 7) 9907 (m := 3) (by decide))
  obtain ⟨g02, p02, u02⟩ := pick3 (a := 0) (b := sizeI c1 m) (c := sizeI c1 m + sizeI c2 m) (by omega) (mix_nn (c1 + 14) 9907 (m := 3) (by decide)) (mix_lt (c1 + 14) 9907 (m := 3) (by decide))
  obtain ⟨g10, p10, u10⟩ := pick3 (a := 0) (b := sizeI c1 m) (c := sizeI c1 m + sizeI c2 m) (by omega) (mix_nn (c2 + 0) 9907 (m := 3) (by decide)) (mix_lt (c2 + 0) 9907 (m := 3) (by decide))
  obtain ⟨g11, p11, u11⟩ := pick3 (a := 0) (b := sizeI c1 m) (c := sizeI c1 m + sizeI c2 m) (by omega) (mix_nn (c2 + 7) 9907 (m := 3) (by decide)) (mix_lt (c2 + 7) 9907 (m := 3) (by decide))
  obtain ⟨g12, p12, u12⟩ := pick3 (a := 0) (b := sizeI c1 m) (c := sizeI c1 m + sizeI c2 m) (by omega) (mix_nn (c2 + 14) 9907 (m := 3) (by decide)) (mix_lt (c2 + 14) 9907 (m := 3) (by decide))
  obtain ⟨d0, e0, l0, G0⟩ := told_ok c1 (0) g00 g01 g02 m hm
  obtain ⟨y00, y01, y02⟩ := size_len hm l0
  have v0 : b2i (decide (0 < mix c1 9931 3)) = 0 := by simp [b2i, t1]
  rw [v0] at y02
  obtain ⟨d1, e1, l1, G1⟩ := told_ok c2 (sizeI c1 m) g10 g11 g12 m hm
  obtain ⟨y10, y11, y12⟩ := size_len hm l1
  have v1 : b2i (decide (0 < mix c2 9931 3)) = 0 := by simp [b2i, t2]
  rw [v1] at y12
  have q0 : d0.length ≤ 10 := by omega
  have q1 : d1.length ≤ 10 := by omega
  refine ⟨((d0 ++ d1)), ?_, by first | omega | (simp; omega) | simp, by first | omega | (simp; omega) | simp, ?_⟩
  · have B : ∀ n : Nat, n ≤ 40 → n ≤ 1000000 := fun n _ => by omega
    have s0 : d0.length ≤ 1000000 := by omega
    have s1 : d0.length + d1.length ≤ 1000000 := by omega
    have s2 : d0.length + d1.length + 1 ≤ 1000000 := by omega
    have s3 : d0.length + d1.length ≤ 999999 := by omega
    simp (config := { decide := true }) only [m_law_dance, F_law_dance, B_law_dance_1, B_law_dance_2, runD, sRet, sq, sIf, bB, b1, b2, b3, b1F, b2F, b3S, vget, rget, gL, gM, vAnd, vOr, vNot, bAnd, bOr, bNot, bTru, truD, asB, asI, oI, aCons, sSet, sSetL, sAsg, gN, gNl, gCs, gT, sFor, forD, sWhile, sComp, compL, iL, iT, iR1, iR2, iEn, enumF, asL, asT, rng, RD.inR, sApp, sSetIx, frz, addO, subO, mulO, modO, fdivO, negO, ixO, lenO, tupO, lstO, intO, eqO, neO, dep, depL, eqD, eqL, ltO, leO, gtO, geO, isO, isnO, catL, dIn, dGet, sDict, sSetM, sDnew, sDput, allO, anyO, isiO, mulT, iS, asS, slD, slF, cutD, Option.bind_some, Option.bind_none, Option.map_some, Option.map_none, List.getElem?_cons_zero, List.getElem?_cons_succ, List.getElem?_nil, List.set_cons_zero, List.set_cons_succ, List.length_cons, List.length_nil, List.map_cons, List.map_nil, List.cons_append, List.nil_append, List.append_nil, List.replicate_succ, List.replicate_zero, Nat.reduceAdd, Nat.reduceSub, Nat.reduceLeDiff, Nat.reduceLT, if_true, if_false, ite_true, ite_false, true_and, and_true, Bool.false_eq_true, decide_true, decide_false, Bool.not_true, Bool.not_false, List.range_zero, Int.toNat_zero, List.length_map, List.length_append, List.length_replicate, Nat.zero_add, Int.zero_add, reduceIte, reduceCtorEq, Int.reduceLT, Int.reduceLE, Int.reducePow, Int.reduceNeg, Int.reduceMul, Int.reduceAdd, Int.reduceSub, Int.reduceToNat, true_or, or_true, and_self, or_self, Bool.and_self, Bool.true_and, Bool.and_true, Bool.true_or, Bool.or_true, Bool.false_and, Bool.false_or, Nat.reduceMul, Nat.reducePow, Int.reduceEq, Nat.reduceEqDiff, Int.natCast_zero, Int.cast_ofNat_Int, Int.ofNat_eq_natCast, Int.natCast_one, r2, r3, List.range_one, Int.toNat_one, at0, at1, at2, at3, atm1, atm2, atm3, ix30, Int.add_assoc, decide_eq_true_eq, m_mix, em, er, e0, e1, z1, z2, k0, k1, k2, t1, t2, p00, p01, p02, p10, p11, p12, s0, s1, s2, s3]
  · have L : (((d0 ++ d1)).length : Int) = (d0.length : Int) + (d1.length : Int) := by first | omega | (simp; omega) | simp
    rw [L]
    exact ((G0.mono fun n h => by omega).app (G1.mono fun n h => by omega))
theorem dance_2_01 {ns : List Int} {m : Int} (hm : m = 2 ∨ m = 3 ∨ m = 4) (em : 2 + mix (ns.getD 0 0) 9973 3 = m) (er : mix (ns.getD 0 0) 9967 3 = 1) (t1 : ¬ 0 < mix (ns.getD 1 0) 9931 3) (t2 :  0 < mix (ns.getD 2 0) 9931 3) :
    ∃ ds, m_law_dance [.lst (ns.map D.int)] = some (.tup [.int m, .tup (ds ++ [.tup [.str "end"]])]) ∧ 1 ≤ ds.length ∧ ds.length ≤ 39 ∧ Good m (fun n => 0 ≤ n ∧ n < (ds.length : Int) + 1) ds := by
  have k0 : m_law_cell [.lst (ns.map D.int), .int 0] = some (.int (ns.getD 0 0)) := m_cell (by decide)
  have k1 : m_law_cell [.lst (ns.map D.int), .int 1] = some (.int (ns.getD 1 0)) := m_cell (by decide)
  have k2 : m_law_cell [.lst (ns.map D.int), .int 2] = some (.int (ns.getD 2 0)) := m_cell (by decide)
  generalize ns.getD 0 0 = c0 at k0 em er
  generalize ns.getD 1 0 = c1 at k1 t1
  generalize ns.getD 2 0 = c2 at k2 t2
  have z1 := m_size (c := c1) hm
  have zp1 := size_pos (c := c1) hm
  have z2 := m_size (c := c2) hm
  have zp2 := size_pos (c := c2) hm
  obtain ⟨g00, p00, u00⟩ := pick3 (a := 0) (b := sizeI c1 m) (c := sizeI c1 m + sizeI c2 m) (by omega) (mix_nn (c1 + 0) 9907 (m := 3) (by decide)) (mix_lt (c1 + 0) 9907 (m := 3) (by decide))
  obtain ⟨g01, p01, u01⟩ := pick3 (a := 0) (b := sizeI c1 m) (c := sizeI c1 m + sizeI c2 m) (by omega) (mix_nn (c1 + 7) 9907 (m := 3) (by decide)) (mix_lt (c1 + 7) 9907 (m := 3) (by decide))
  obtain ⟨g02, p02, u02⟩ := pick3 (a := 0) (b := sizeI c1 m) (c := sizeI c1 m + sizeI c2 m) (by omega) (mix_nn (c1 + 14) 9907 (m := 3) (by decide)) (mix_lt (c1 + 14) 9907 (m := 3) (by decide))
  obtain ⟨g10, p10, u10⟩ := pick3 (a := 0) (b := sizeI c1 m) (c := sizeI c1 m + sizeI c2 m) (by omega) (mix_nn (c2 + 0) 9907 (m := 3) (by decide)) (mix_lt (c2 + 0) 9907 (m := 3) (by decide))
  obtain ⟨g11, p11, u11⟩ := pick3 (a := 0) (b := sizeI c1 m) (c := sizeI c1 m + sizeI c2 m) (by omega) (mix_nn (c2 + 7) 9907 (m := 3) (by decide)) (mix_lt (c2 + 7) 9907 (m := 3) (by decide))
  obtain ⟨g12, p12, u12⟩ := pick3 (a := 0) (b := sizeI c1 m) (c := sizeI c1 m + sizeI c2 m) (by omega) (mix_nn (c2 + 14) 9907 (m := 3) (by decide)) (mix_lt (c2 + 14) 9907 (m := 3) (by decide))
  obtain ⟨d0, e0, l0, G0⟩ := told_ok c1 (0) g00 g01 g02 m hm
  obtain ⟨y00, y01, y02⟩ := size_len hm l0
  have v0 : b2i (decide (0 < mix c1 9931 3)) = 0 := by simp [b2i, t1]
  rw [v0] at y02
  obtain ⟨d1, e1, l1, G1⟩ := told_ok c2 (sizeI c1 m) (sizeI c1 m + sizeI c2 m - 1) g11 g12 m hm
  obtain ⟨x1, f1, K1⟩ := two_ok c2 (sizeI c1 m + sizeI c2 m - 1) g10 m hm
  obtain ⟨y10, y11, y12⟩ := size_len hm l1
  have v1 : b2i (decide (0 < mix c2 9931 3)) = 1 := by simp [b2i, t2]
  rw [v1] at y12
  have q0 : d0.length ≤ 10 := by omega
  have q1 : d1.length ≤ 10 := by omega
  refine ⟨(((d0 ++ d1) ++ [x1])), ?_, by first | omega | (simp; omega) | simp, by first | omega | (simp; omega) | simp, ?_⟩
  · have B : ∀ n : Nat, n ≤ 40 → n ≤ 1000000 := fun n _ => by omega
    have s0 : d0.length ≤ 1000000 := by omega
    have s1 : d0.length + d1.length ≤ 1000000 := by omega
    have s2 : d0.length + d1.length < 1000000 := by omega
    have s3 : d0.length + d1.length + 1 + 1 ≤ 1000000 := by omega
    have s4 : d0.length + d1.length + 1 ≤ 999999 := by omega
    simp (config := { decide := true }) only [m_law_dance, F_law_dance, B_law_dance_1, B_law_dance_2, runD, sRet, sq, sIf, bB, b1, b2, b3, b1F, b2F, b3S, vget, rget, gL, gM, vAnd, vOr, vNot, bAnd, bOr, bNot, bTru, truD, asB, asI, oI, aCons, sSet, sSetL, sAsg, gN, gNl, gCs, gT, sFor, forD, sWhile, sComp, compL, iL, iT, iR1, iR2, iEn, enumF, asL, asT, rng, RD.inR, sApp, sSetIx, frz, addO, subO, mulO, modO, fdivO, negO, ixO, lenO, tupO, lstO, intO, eqO, neO, dep, depL, eqD, eqL, ltO, leO, gtO, geO, isO, isnO, catL, dIn, dGet, sDict, sSetM, sDnew, sDput, allO, anyO, isiO, mulT, iS, asS, slD, slF, cutD, Option.bind_some, Option.bind_none, Option.map_some, Option.map_none, List.getElem?_cons_zero, List.getElem?_cons_succ, List.getElem?_nil, List.set_cons_zero, List.set_cons_succ, List.length_cons, List.length_nil, List.map_cons, List.map_nil, List.cons_append, List.nil_append, List.append_nil, List.replicate_succ, List.replicate_zero, Nat.reduceAdd, Nat.reduceSub, Nat.reduceLeDiff, Nat.reduceLT, if_true, if_false, ite_true, ite_false, true_and, and_true, Bool.false_eq_true, decide_true, decide_false, Bool.not_true, Bool.not_false, List.range_zero, Int.toNat_zero, List.length_map, List.length_append, List.length_replicate, Nat.zero_add, Int.zero_add, reduceIte, reduceCtorEq, Int.reduceLT, Int.reduceLE, Int.reducePow, Int.reduceNeg, Int.reduceMul, Int.reduceAdd, Int.reduceSub, Int.reduceToNat, true_or, or_true, and_self, or_self, Bool.and_self, Bool.true_and, Bool.and_true, Bool.true_or, Bool.or_true, Bool.false_and, Bool.false_or, Nat.reduceMul, Nat.reducePow, Int.reduceEq, Nat.reduceEqDiff, Int.natCast_zero, Int.cast_ofNat_Int, Int.ofNat_eq_natCast, Int.natCast_one, r2, r3, List.range_one, Int.toNat_one, at0, at1, at2, at3, atm1, atm2, atm3, ix30, Int.add_assoc, decide_eq_true_eq, m_mix, em, er, e0, e1, f1, z1, z2, k0, k1, k2, t1, t2, p00, p01, p02, p10, p11, p12, s0, s1, s2, s3, s4]
  · have L : ((((d0 ++ d1) ++ [x1])).length : Int) = (d0.length : Int) + (d1.length : Int) + 1 := by first | omega | (simp; omega) | simp
    rw [L]
    exact (((G0.mono fun n h => by omega).app (G1.mono fun n h => by omega)).app (K1.mono fun n h => by omega))
theorem dance_2_10 {ns : List Int} {m : Int} (hm : m = 2 ∨ m = 3 ∨ m = 4) (em : 2 + mix (ns.getD 0 0) 9973 3 = m) (er : mix (ns.getD 0 0) 9967 3 = 1) (t1 :  0 < mix (ns.getD 1 0) 9931 3) (t2 : ¬ 0 < mix (ns.getD 2 0) 9931 3) :
    ∃ ds, m_law_dance [.lst (ns.map D.int)] = some (.tup [.int m, .tup (ds ++ [.tup [.str "end"]])]) ∧ 1 ≤ ds.length ∧ ds.length ≤ 39 ∧ Good m (fun n => 0 ≤ n ∧ n < (ds.length : Int) + 1) ds := by
  have k0 : m_law_cell [.lst (ns.map D.int), .int 0] = some (.int (ns.getD 0 0)) := m_cell (by decide)
  have k1 : m_law_cell [.lst (ns.map D.int), .int 1] = some (.int (ns.getD 1 0)) := m_cell (by decide)
  have k2 : m_law_cell [.lst (ns.map D.int), .int 2] = some (.int (ns.getD 2 0)) := m_cell (by decide)
  generalize ns.getD 0 0 = c0 at k0 em er
  generalize ns.getD 1 0 = c1 at k1 t1
  generalize ns.getD 2 0 = c2 at k2 t2
  have z1 := m_size (c := c1) hm
  have zp1 := size_pos (c := c1) hm
  have z2 := m_size (c := c2) hm
  have zp2 := size_pos (c := c2) hm
  obtain ⟨g00, p00, u00⟩ := pick3 (a := 0) (b := sizeI c1 m) (c := sizeI c1 m + sizeI c2 m) (by omega) (mix_nn (c1 + 0) 9907 (m := 3) (by decide)) (mix_lt (c1 + 0) 9907 (m := 3) (by decide))
  obtain ⟨g01, p01, u01⟩ := pick3 (a := 0) (b := sizeI c1 m) (c := sizeI c1 m + sizeI c2 m) (by omega) (mix_nn (c1 + 7) 9907 (m := 3) (by decide)) (mix_lt (c1 + 7) 9907 (m := 3) (by decide))
  obtain ⟨g02, p02, u02⟩ := pick3 (a := 0) (b := sizeI c1 m) (c := sizeI c1 m + sizeI c2 m) (by omega) (mix_nn (c1 + 14) 9907 (m := 3) (by decide)) (mix_lt (c1 + 14) 9907 (m := 3) (by decide))
  obtain ⟨g10, p10, u10⟩ := pick3 (a := 0) (b := sizeI c1 m) (c := sizeI c1 m + sizeI c2 m) (by omega) (mix_nn (c2 + 0) 9907 (m := 3) (by decide)) (mix_lt (c2 + 0) 9907 (m := 3) (by decide))
  obtain ⟨g11, p11, u11⟩ := pick3 (a := 0) (b := sizeI c1 m) (c := sizeI c1 m + sizeI c2 m) (by omega) (mix_nn (c2 + 7) 9907 (m := 3) (by decide)) (mix_lt (c2 + 7) 9907 (m := 3) (by decide))
  obtain ⟨g12, p12, u12⟩ := pick3 (a := 0) (b := sizeI c1 m) (c := sizeI c1 m + sizeI c2 m) (by omega) (mix_nn (c2 + 14) 9907 (m := 3) (by decide)) (mix_lt (c2 + 14) 9907 (m := 3) (by decide))
  obtain ⟨d0, e0, l0, G0⟩ := told_ok c1 (0) (sizeI c1 m - 1) g01 g02 m hm
  obtain ⟨x0, f0, K0⟩ := two_ok c1 (sizeI c1 m - 1) g00 m hm
  obtain ⟨y00, y01, y02⟩ := size_len hm l0
  have v0 : b2i (decide (0 < mix c1 9931 3)) = 1 := by simp [b2i, t1]
  rw [v0] at y02
  obtain ⟨d1, e1, l1, G1⟩ := told_ok c2 (sizeI c1 m) g10 g11 g12 m hm
  obtain ⟨y10, y11, y12⟩ := size_len hm l1
  have v1 : b2i (decide (0 < mix c2 9931 3)) = 0 := by simp [b2i, t2]
  rw [v1] at y12
  have q0 : d0.length ≤ 10 := by omega
  have q1 : d1.length ≤ 10 := by omega
  refine ⟨(((d0 ++ [x0]) ++ d1)), ?_, by first | omega | (simp; omega) | simp, by first | omega | (simp; omega) | simp, ?_⟩
  · have B : ∀ n : Nat, n ≤ 40 → n ≤ 1000000 := fun n _ => by omega
    have s0 : d0.length ≤ 1000000 := by omega
    have s1 : d0.length < 1000000 := by omega
    have s2 : d0.length + 1 + d1.length ≤ 1000000 := by omega
    have s3 : d0.length + 1 + d1.length + 1 ≤ 1000000 := by omega
    have s4 : d0.length + 1 + d1.length ≤ 999999 := by omega
    simp (config := { decide := true }) only [m_law_dance, F_law_dance, B_law_dance_1, B_law_dance_2, runD, sRet, sq, sIf, bB, b1, b2, b3, b1F, b2F, b3S, vget, rget, gL, gM, vAnd, vOr, vNot, bAnd, bOr, bNot, bTru, truD, asB, asI, oI, aCons, sSet, sSetL, sAsg, gN, gNl, gCs, gT, sFor, forD, sWhile, sComp, compL, iL, iT, iR1, iR2, iEn, enumF, asL, asT, rng, RD.inR, sApp, sSetIx, frz, addO, subO, mulO, modO, fdivO, negO, ixO, lenO, tupO, lstO, intO, eqO, neO, dep, depL, eqD, eqL, ltO, leO, gtO, geO, isO, isnO, catL, dIn, dGet, sDict, sSetM, sDnew, sDput, allO, anyO, isiO, mulT, iS, asS, slD, slF, cutD, Option.bind_some, Option.bind_none, Option.map_some, Option.map_none, List.getElem?_cons_zero, List.getElem?_cons_succ, List.getElem?_nil, List.set_cons_zero, List.set_cons_succ, List.length_cons, List.length_nil, List.map_cons, List.map_nil, List.cons_append, List.nil_append, List.append_nil, List.replicate_succ, List.replicate_zero, Nat.reduceAdd, Nat.reduceSub, Nat.reduceLeDiff, Nat.reduceLT, if_true, if_false, ite_true, ite_false, true_and, and_true, Bool.false_eq_true, decide_true, decide_false, Bool.not_true, Bool.not_false, List.range_zero, Int.toNat_zero, List.length_map, List.length_append, List.length_replicate, Nat.zero_add, Int.zero_add, reduceIte, reduceCtorEq, Int.reduceLT, Int.reduceLE, Int.reducePow, Int.reduceNeg, Int.reduceMul, Int.reduceAdd, Int.reduceSub, Int.reduceToNat, true_or, or_true, and_self, or_self, Bool.and_self, Bool.true_and, Bool.and_true, Bool.true_or, Bool.or_true, Bool.false_and, Bool.false_or, Nat.reduceMul, Nat.reducePow, Int.reduceEq, Nat.reduceEqDiff, Int.natCast_zero, Int.cast_ofNat_Int, Int.ofNat_eq_natCast, Int.natCast_one, r2, r3, List.range_one, Int.toNat_one, at0, at1, at2, at3, atm1, atm2, atm3, ix30, Int.add_assoc, decide_eq_true_eq, m_mix, em, er, e0, e1, f0, z1, z2, k0, k1, k2, t1, t2, p00, p01, p02, p10, p11, p12, s0, s1, s2, s3, s4]
  · have L : ((((d0 ++ [x0]) ++ d1)).length : Int) = (d0.length : Int) + 1 + (d1.length : Int) := by first | omega | (simp; omega) | simp
    rw [L]
    exact (((G0.mono fun n h => by omega).app (K0.mono fun n h => by omega)).app (G1.mono fun n h => by omega))
theorem dance_2_11 {ns : List Int} {m : Int} (hm : m = 2 ∨ m = 3 ∨ m = 4) (em : 2 + mix (ns.getD 0 0) 9973 3 = m) (er : mix (ns.getD 0 0) 9967 3 = 1) (t1 :  0 < mix (ns.getD 1 0) 9931 3) (t2 :  0 < mix (ns.getD 2 0) 9931 3) :
    ∃ ds, m_law_dance [.lst (ns.map D.int)] = some (.tup [.int m, .tup (ds ++ [.tup [.str "end"]])]) ∧ 1 ≤ ds.length ∧ ds.length ≤ 39 ∧ Good m (fun n => 0 ≤ n ∧ n < (ds.length : Int) + 1) ds := by
  have k0 : m_law_cell [.lst (ns.map D.int), .int 0] = some (.int (ns.getD 0 0)) := m_cell (by decide)
  have k1 : m_law_cell [.lst (ns.map D.int), .int 1] = some (.int (ns.getD 1 0)) := m_cell (by decide)
  have k2 : m_law_cell [.lst (ns.map D.int), .int 2] = some (.int (ns.getD 2 0)) := m_cell (by decide)
  generalize ns.getD 0 0 = c0 at k0 em er
  generalize ns.getD 1 0 = c1 at k1 t1
  generalize ns.getD 2 0 = c2 at k2 t2
  have z1 := m_size (c := c1) hm
  have zp1 := size_pos (c := c1) hm
  have z2 := m_size (c := c2) hm
  have zp2 := size_pos (c := c2) hm
  obtain ⟨g00, p00, u00⟩ := pick3 (a := 0) (b := sizeI c1 m) (c := sizeI c1 m + sizeI c2 m) (by omega) (mix_nn (c1 + 0) 9907 (m := 3) (by decide)) (mix_lt (c1 + 0) 9907 (m := 3) (by decide))
  obtain ⟨g01, p01, u01⟩ := pick3 (a := 0) (b := sizeI c1 m) (c := sizeI c1 m + sizeI c2 m) (by omega) (mix_nn (c1 + 7) 9907 (m := 3) (by decide)) (mix_lt (c1 + 7) 9907 (m := 3) (by decide))
  obtain ⟨g02, p02, u02⟩ := pick3 (a := 0) (b := sizeI c1 m) (c := sizeI c1 m + sizeI c2 m) (by omega) (mix_nn (c1 + 14) 9907 (m := 3) (by decide)) (mix_lt (c1 + 14) 9907 (m := 3) (by decide))
  obtain ⟨g10, p10, u10⟩ := pick3 (a := 0) (b := sizeI c1 m) (c := sizeI c1 m + sizeI c2 m) (by omega) (mix_nn (c2 + 0) 9907 (m := 3) (by decide)) (mix_lt (c2 + 0) 9907 (m := 3) (by decide))
  obtain ⟨g11, p11, u11⟩ := pick3 (a := 0) (b := sizeI c1 m) (c := sizeI c1 m + sizeI c2 m) (by omega) (mix_nn (c2 + 7) 9907 (m := 3) (by decide)) (mix_lt (c2 + 7) 9907 (m := 3) (by decide))
  obtain ⟨g12, p12, u12⟩ := pick3 (a := 0) (b := sizeI c1 m) (c := sizeI c1 m + sizeI c2 m) (by omega) (mix_nn (c2 + 14) 9907 (m := 3) (by decide)) (mix_lt (c2 + 14) 9907 (m := 3) (by decide))
  obtain ⟨d0, e0, l0, G0⟩ := told_ok c1 (0) (sizeI c1 m - 1) g01 g02 m hm
  obtain ⟨x0, f0, K0⟩ := two_ok c1 (sizeI c1 m - 1) g00 m hm
  obtain ⟨y00, y01, y02⟩ := size_len hm l0
  have v0 : b2i (decide (0 < mix c1 9931 3)) = 1 := by simp [b2i, t1]
  rw [v0] at y02
  obtain ⟨d1, e1, l1, G1⟩ := told_ok c2 (sizeI c1 m) (sizeI c1 m + sizeI c2 m - 1) g11 g12 m hm
  obtain ⟨x1, f1, K1⟩ := two_ok c2 (sizeI c1 m + sizeI c2 m - 1) g10 m hm
  obtain ⟨y10, y11, y12⟩ := size_len hm l1
  have v1 : b2i (decide (0 < mix c2 9931 3)) = 1 := by simp [b2i, t2]
  rw [v1] at y12
  have q0 : d0.length ≤ 10 := by omega
  have q1 : d1.length ≤ 10 := by omega
  refine ⟨((((d0 ++ [x0]) ++ d1) ++ [x1])), ?_, by first | omega | (simp; omega) | simp, by first | omega | (simp; omega) | simp, ?_⟩
  · have B : ∀ n : Nat, n ≤ 40 → n ≤ 1000000 := fun n _ => by omega
    have s0 : d0.length ≤ 1000000 := by omega
    have s1 : d0.length < 1000000 := by omega
    have s2 : d0.length + 1 + d1.length ≤ 1000000 := by omega
    have s3 : d0.length + 1 + d1.length < 1000000 := by omega
    have s4 : d0.length + 1 + d1.length + 1 + 1 ≤ 1000000 := by omega
    have s5 : d0.length + 1 + d1.length + 1 ≤ 999999 := by omega
    simp (config := { decide := true }) only [m_law_dance, F_law_dance, B_law_dance_1, B_law_dance_2, runD, sRet, sq, sIf, bB, b1, b2, b3, b1F, b2F, b3S, vget, rget, gL, gM, vAnd, vOr, vNot, bAnd, bOr, bNot, bTru, truD, asB, asI, oI, aCons, sSet, sSetL, sAsg, gN, gNl, gCs, gT, sFor, forD, sWhile, sComp, compL, iL, iT, iR1, iR2, iEn, enumF, asL, asT, rng, RD.inR, sApp, sSetIx, frz, addO, subO, mulO, modO, fdivO, negO, ixO, lenO, tupO, lstO, intO, eqO, neO, dep, depL, eqD, eqL, ltO, leO, gtO, geO, isO, isnO, catL, dIn, dGet, sDict, sSetM, sDnew, sDput, allO, anyO, isiO, mulT, iS, asS, slD, slF, cutD, Option.bind_some, Option.bind_none, Option.map_some, Option.map_none, List.getElem?_cons_zero, List.getElem?_cons_succ, List.getElem?_nil, List.set_cons_zero, List.set_cons_succ, List.length_cons, List.length_nil, List.map_cons, List.map_nil, List.cons_append, List.nil_append, List.append_nil, List.replicate_succ, List.replicate_zero, Nat.reduceAdd, Nat.reduceSub, Nat.reduceLeDiff, Nat.reduceLT, if_true, if_false, ite_true, ite_false, true_and, and_true, Bool.false_eq_true, decide_true, decide_false, Bool.not_true, Bool.not_false, List.range_zero, Int.toNat_zero, List.length_map, List.length_append, List.length_replicate, Nat.zero_add, Int.zero_add, reduceIte, reduceCtorEq, Int.reduceLT, Int.reduceLE, Int.reducePow, Int.reduceNeg, Int.reduceMul, Int.reduceAdd, Int.reduceSub, Int.reduceToNat, true_or, or_true, and_self, or_self, Bool.and_self, Bool.true_and, Bool.and_true, Bool.true_or, Bool.or_true, Bool.false_and, Bool.false_or, Nat.reduceMul, Nat.reducePow, Int.reduceEq, Nat.reduceEqDiff, Int.natCast_zero, Int.cast_ofNat_Int, Int.ofNat_eq_natCast, Int.natCast_one, r2, r3, List.range_one, Int.toNat_one, at0, at1, at2, at3, atm1, atm2, atm3, ix30, Int.add_assoc, decide_eq_true_eq, m_mix, em, er, e0, e1, f0, f1, z1, z2, k0, k1, k2, t1, t2, p00, p01, p02, p10, p11, p12, s0, s1, s2, s3, s4, s5]
  · have L : (((((d0 ++ [x0]) ++ d1) ++ [x1])).length : Int) = (d0.length : Int) + 1 + (d1.length : Int) + 1 := by first | omega | (simp; omega) | simp
    rw [L]
    exact ((((G0.mono fun n h => by omega).app (K0.mono fun n h => by omega)).app (G1.mono fun n h => by omega)).app (K1.mono fun n h => by omega))
theorem dance_3_000 {ns : List Int} {m : Int} (hm : m = 2 ∨ m = 3 ∨ m = 4) (em : 2 + mix (ns.getD 0 0) 9973 3 = m) (er : mix (ns.getD 0 0) 9967 3 = 2) (t1 : ¬ 0 < mix (ns.getD 1 0) 9931 3) (t2 : ¬ 0 < mix (ns.getD 2 0) 9931 3) (t3 : ¬ 0 < mix (ns.getD 3 0) 9931 3) :
    ∃ ds, m_law_dance [.lst (ns.map D.int)] = some (.tup [.int m, .tup (ds ++ [.tup [.str "end"]])]) ∧ 1 ≤ ds.length ∧ ds.length ≤ 39 ∧ Good m (fun n => 0 ≤ n ∧ n < (ds.length : Int) + 1) ds := by
  have k0 : m_law_cell [.lst (ns.map D.int), .int 0] = some (.int (ns.getD 0 0)) := m_cell (by decide)
  have k1 : m_law_cell [.lst (ns.map D.int), .int 1] = some (.int (ns.getD 1 0)) := m_cell (by decide)
  have k2 : m_law_cell [.lst (ns.map D.int), .int 2] = some (.int (ns.getD 2 0)) := m_cell (by decide)
  have k3 : m_law_cell [.lst (ns.map D.int), .int 3] = some (.int (ns.getD 3 0)) := m_cell (by decide)
  generalize ns.getD 0 0 = c0 at k0 em er
  generalize ns.getD 1 0 = c1 at k1 t1
  generalize ns.getD 2 0 = c2 at k2 t2
  generalize ns.getD 3 0 = c3 at k3 t3
  have z1 := m_size (c := c1) hm
  have zp1 := size_pos (c := c1) hm
  have z2 := m_size (c := c2) hm
  have zp2 := size_pos (c := c2) hm
  have z3 := m_size (c := c3) hm
  have zp3 := size_pos (c := c3) hm
  obtain ⟨g00, p00, u00⟩ := pick4 (a := 0) (b := sizeI c1 m) (c := sizeI c1 m + sizeI c2 m) (d := sizeI c1 m + (sizeI c2 m + sizeI c3 m)) (by omega) (mix_nn (c1 + 0) 9907 (m := 4) (by decide)) (mix_lt (c1 + 0) 9907 (m := 4) (by decide))
  obtain ⟨g01, p01, u01⟩ := pick4 (a := 0) (b := sizeI c1 m) (c := sizeI c1 m + sizeI c2 m) (d := sizeI c1 m + (sizeI c2 m + sizeI c3 m)) (by omega) (mix_nn (c1 + 7) 9907 (m := 4) (by decide)) (mix_lt (c1 + 7) 9907 (m := 4) (by decide))
  obtain ⟨g02, p02, u02⟩ := pick4 (a := 0) (b := sizeI c1 m) (c := sizeI c1 m + sizeI c2 m) (d := sizeI c1 m + (sizeI c2 m + sizeI c3 m)) (by omega) (mix_nn (c1 + 14) 9907 (m := 4) (by decide)) (mix_lt (c1 + 14) 9907 (m := 4) (by decide))
  obtain ⟨g10, p10, u10⟩ := pick4 (a := 0) (b := sizeI c1 m) (c := sizeI c1 m + sizeI c2 m) (d := sizeI c1 m + (sizeI c2 m + sizeI c3 m)) (by omega) (mix_nn (c2 + 0) 9907 (m := 4) (by decide)) (mix_lt (c2 + 0) 9907 (m := 4) (by decide))
  obtain ⟨g11, p11, u11⟩ := pick4 (a := 0) (b := sizeI c1 m) (c := sizeI c1 m + sizeI c2 m) (d := sizeI c1 m + (sizeI c2 m + sizeI c3 m)) (by omega) (mix_nn (c2 + 7) 9907 (m := 4) (by decide)) (mix_lt (c2 + 7) 9907 (m := 4) (by decide))
  obtain ⟨g12, p12, u12⟩ := pick4 (a := 0) (b := sizeI c1 m) (c := sizeI c1 m + sizeI c2 m) (d := sizeI c1 m + (sizeI c2 m + sizeI c3 m)) (by omega) (mix_nn (c2 + 14) 9907 (m := 4) (by decide)) (mix_lt (c2 + 14) 9907 (m := 4) (by decide))
  obtain ⟨g20, p20, u20⟩ := pick4 (a := 0) (b := sizeI c1 m) (c := sizeI c1 m + sizeI c2 m) (d := sizeI c1 m + (sizeI c2 m + sizeI c3 m)) (by omega) (mix_nn (c3 + 0) 9907 (m := 4) (by decide)) (mix_lt (c3 + 0) 9907 (m := 4) (by decide))
  obtain ⟨g21, p21, u21⟩ := pick4 (a := 0) (b := sizeI c1 m) (c := sizeI c1 m + sizeI c2 m) (d := sizeI c1 m + (sizeI c2 m + sizeI c3 m)) (by omega) (mix_nn (c3 + 7) 9907 (m := 4) (by decide)) (mix_lt (c3 + 7) 9907 (m := 4) (by decide))
  obtain ⟨g22, p22, u22⟩ := pick4 (a := 0) (b := sizeI c1 m) (c := sizeI c1 m + sizeI c2 m) (d := sizeI c1 m + (sizeI c2 m + sizeI c3 m)) (by omega) (mix_nn (c3 + 14) 9907 (m := 4) (by decide)) (mix_lt (c3 + 14) 9907 (m := 4) (by decide))
  obtain ⟨d0, e0, l0, G0⟩ := told_ok c1 (0) g00 g01 g02 m hm
  obtain ⟨y00, y01, y02⟩ := size_len hm l0
  have v0 : b2i (decide (0 < mix c1 9931 3)) = 0 := by simp [b2i, t1]
  rw [v0] at y02
  obtain ⟨d1, e1, l1, G1⟩ := told_ok c2 (sizeI c1 m) g10 g11 g12 m hm
  obtain ⟨y10, y11, y12⟩ := size_len hm l1
  have v1 : b2i (decide (0 < mix c2 9931 3)) = 0 := by simp [b2i, t2]
  rw [v1] at y12
  obtain ⟨d2, e2, l2, G2⟩ := told_ok c3 (sizeI c1 m + sizeI c2 m) g20 g21 g22 m hm
  obtain ⟨y20, y21, y22⟩ := size_len hm l2
  have v2 : b2i (decide (0 < mix c3 9931 3)) = 0 := by simp [b2i, t3]
  rw [v2] at y22
  have q0 : d0.length ≤ 10 := by omega
  have q1 : d1.length ≤ 10 := by omega
  have q2 : d2.length ≤ 10 := by omega
  refine ⟨(((d0 ++ d1) ++ d2)), ?_, by first | omega | (simp; omega) | simp, by first | omega | (simp; omega) | simp, ?_⟩
  · have B : ∀ n : Nat, n ≤ 40 → n ≤ 1000000 := fun n _ => by omega
    have s0 : d0.length ≤ 1000000 := by omega
    have s1 : d0.length + d1.length ≤ 1000000 := by omega
    have s2 : d0.length + d1.length + d2.length ≤ 1000000 := by omega
    have s3 : d0.length + d1.length + d2.length + 1 ≤ 1000000 := by omega
    have s4 : d0.length + d1.length + d2.length ≤ 999999 := by omega
    simp (config := { decide := true }) only [m_law_dance, F_law_dance, B_law_dance_1, B_law_dance_2, runD, sRet, sq, sIf, bB, b1, b2, b3, b1F, b2F, b3S, vget, rget, gL, gM, vAnd, vOr, vNot, bAnd, bOr, bNot, bTru, truD, asB, asI, oI, aCons, sSet, sSetL, sAsg, gN, gNl, gCs, gT, sFor, forD, sWhile, sComp, compL, iL, iT, iR1, iR2, iEn, enumF, asL, asT, rng, RD.inR, sApp, sSetIx, frz, addO, subO, mulO, modO, fdivO, negO, ixO, lenO, tupO, lstO, intO, eqO, neO, dep, depL, eqD, eqL, ltO, leO, gtO, geO, isO, isnO, catL, dIn, dGet, sDict, sSetM, sDnew, sDput, allO, anyO, isiO, mulT, iS, asS, slD, slF, cutD, Option.bind_some, Option.bind_none, Option.map_some, Option.map_none, List.getElem?_cons_zero, List.getElem?_cons_succ, List.getElem?_nil, List.set_cons_zero, List.set_cons_succ, List.length_cons, List.length_nil, List.map_cons, List.map_nil, List.cons_append, List.nil_append, List.append_nil, List.replicate_succ, List.replicate_zero, Nat.reduceAdd, Nat.reduceSub, Nat.reduceLeDiff, Nat.reduceLT, if_true, if_false, ite_true, ite_false, true_and, and_true, Bool.false_eq_true, decide_true, decide_false, Bool.not_true, Bool.not_false, List.range_zero, Int.toNat_zero, List.length_map, List.length_append, List.length_replicate, Nat.zero_add, Int.zero_add, reduceIte, reduceCtorEq, Int.reduceLT, Int.reduceLE, Int.reducePow, Int.reduceNeg, Int.reduceMul, Int.reduceAdd, Int.reduceSub, Int.reduceToNat, true_or, or_true, and_self, or_self, Bool.and_self, Bool.true_and, Bool.and_true, Bool.true_or, Bool.or_true, Bool.false_and, Bool.false_or, Nat.reduceMul, Nat.reducePow, Int.reduceEq, Nat.reduceEqDiff, Int.natCast_zero, Int.cast_ofNat_Int, Int.ofNat_eq_natCast, Int.natCast_one, r2, r3, List.range_one, Int.toNat_one, at0, at1, at2, at3, atm1, atm2, atm3, ix30, Int.add_assoc, decide_eq_true_eq, m_mix, em, er, e0, e1, e2, z1, z2, z3, k0, k1, k2, k3, t1, t2, t3, p00, p01, p02, p10, p11, p12, p20, p21, p22, s0, s1, s2, s3, s4]
  · have L : ((((d0 ++ d1) ++ d2)).length : Int) = (d0.length : Int) + (d1.length : Int) + (d2.length : Int) := by first | omega | (simp; omega) | simp
    rw [L]
    exact (((G0.mono fun n h => by omega).app (G1.mono fun n h => by omega)).app (G2.mono fun n h => by omega))
theorem dance_3_001 {ns : List Int} {m : Int} (hm : m = 2 ∨ m = 3 ∨ m = 4) (em : 2 + mix (ns.getD 0 0) 9973 3 = m) (er : mix (ns.getD 0 0) 9967 3 = 2) (t1 : ¬ 0 < mix (ns.getD 1 0) 9931 3) (t2 : ¬ 0 < mix (ns.getD 2 0) 9931 3) (t3 :  0 < mix (ns.getD 3 0) 9931 3) :
    ∃ ds, m_law_dance [.lst (ns.map D.int)] = some (.tup [.int m, .tup (ds ++ [.tup [.str "end"]])]) ∧ 1 ≤ ds.length ∧ ds.length ≤ 39 ∧ Good m (fun n => 0 ≤ n ∧ n < (ds.length : Int) + 1) ds := by
  have k0 : m_law_cell [.lst (ns.map D.int), .int 0] = some (.int (ns.getD 0 0)) := m_cell (by decide)
  have k1 : m_law_cell [.lst (ns.map D.int), .int 1] = some (.int (ns.getD 1 0)) := m_cell (by decide)
  have k2 : m_law_cell [.lst (ns.map D.int), .int 2] = some (.int (ns.getD 2 0)) := m_cell (by decide)
  have k3 : m_law_cell [.lst (ns.map D.int), .int 3] = some (.int (ns.getD 3 0)) := m_cell (by decide)
  generalize ns.getD 0 0 = c0 at k0 em er
  generalize ns.getD 1 0 = c1 at k1 t1
  generalize ns.getD 2 0 = c2 at k2 t2
  generalize ns.getD 3 0 = c3 at k3 t3
  have z1 := m_size (c := c1) hm
  have zp1 := size_pos (c := c1) hm
  have z2 := m_size (c := c2) hm
  have zp2 := size_pos (c := c2) hm
  have z3 := m_size (c := c3) hm
  have zp3 := size_pos (c := c3) hm
  obtain ⟨g00, p00, u00⟩ := pick4 (a := 0) (b := sizeI c1 m) (c := sizeI c1 m + sizeI c2 m) (d := sizeI c1 m + (sizeI c2 m + sizeI c3 m)) (by omega) (mix_nn (c1 + 0) 9907 (m := 4) (by decide)) (mix_lt (c1 + 0) 9907 (m := 4) (by decide))
  obtain ⟨g01, p01, u01⟩ := pick4 (a := 0) (b := sizeI c1 m) (c := sizeI c1 m + sizeI c2 m) (d := sizeI c1 m + (sizeI c2 m + sizeI c3 m)) (by omega) (mix_nn (c1 + 7) 9907 (m := 4) (by decide)) (mix_lt (c1 + 7) 9907 (m := 4) (by decide))
  obtain ⟨g02, p02, u02⟩ := pick4 (a := 0) (b := sizeI c1 m) (c := sizeI c1 m + sizeI c2 m) (d := sizeI c1 m + (sizeI c2 m + sizeI c3 m)) (by omega) (mix_nn (c1 + 14) 9907 (m := 4) (by decide)) (mix_lt (c1 + 14) 9907 (m := 4) (by decide))
  obtain ⟨g10, p10, u10⟩ := pick4 (a := 0) (b := sizeI c1 m) (c := sizeI c1 m + sizeI c2 m) (d := sizeI c1 m + (sizeI c2 m + sizeI c3 m)) (by omega) (mix_nn (c2 + 0) 9907 (m := 4) (by decide)) (mix_lt (c2 + 0) 9907 (m := 4) (by decide))
  obtain ⟨g11, p11, u11⟩ := pick4 (a := 0) (b := sizeI c1 m) (c := sizeI c1 m + sizeI c2 m) (d := sizeI c1 m + (sizeI c2 m + sizeI c3 m)) (by omega) (mix_nn (c2 + 7) 9907 (m := 4) (by decide)) (mix_lt (c2 + 7) 9907 (m := 4) (by decide))
  obtain ⟨g12, p12, u12⟩ := pick4 (a := 0) (b := sizeI c1 m) (c := sizeI c1 m + sizeI c2 m) (d := sizeI c1 m + (sizeI c2 m + sizeI c3 m)) (by omega) (mix_nn (c2 + 14) 9907 (m := 4) (by decide)) (mix_lt (c2 + 14) 9907 (m := 4) (by decide))
  obtain ⟨g20, p20, u20⟩ := pick4 (a := 0) (b := sizeI c1 m) (c := sizeI c1 m + sizeI c2 m) (d := sizeI c1 m + (sizeI c2 m + sizeI c3 m)) (by omega) (mix_nn (c3 + 0) 9907 (m := 4) (by decide)) (mix_lt (c3 + 0) 9907 (m := 4) (by decide))
  obtain ⟨g21, p21, u21⟩ := pick4 (a := 0) (b := sizeI c1 m) (c := sizeI c1 m + sizeI c2 m) (d := sizeI c1 m + (sizeI c2 m + sizeI c3 m)) (by omega) (mix_nn (c3 + 7) 9907 (m := 4) (by decide)) (mix_lt (c3 + 7) 9907 (m := 4) (by decide))
  obtain ⟨g22, p22, u22⟩ := pick4 (a := 0) (b := sizeI c1 m) (c := sizeI c1 m + sizeI c2 m) (d := sizeI c1 m + (sizeI c2 m + sizeI c3 m)) (by omega) (mix_nn (c3 + 14) 9907 (m := 4) (by decide)) (mix_lt (c3 + 14) 9907 (m := 4) (by decide))
  obtain ⟨d0, e0, l0, G0⟩ := told_ok c1 (0) g00 g01 g02 m hm
  obtain ⟨y00, y01, y02⟩ := size_len hm l0
  have v0 : b2i (decide (0 < mix c1 9931 3)) = 0 := by simp [b2i, t1]
  rw [v0] at y02
  obtain ⟨d1, e1, l1, G1⟩ := told_ok c2 (sizeI c1 m) g10 g11 g12 m hm
  obtain ⟨y10, y11, y12⟩ := size_len hm l1
  have v1 : b2i (decide (0 < mix c2 9931 3)) = 0 := by simp [b2i, t2]
  rw [v1] at y12
  obtain ⟨d2, e2, l2, G2⟩ := told_ok c3 (sizeI c1 m + sizeI c2 m) (sizeI c1 m + (sizeI c2 m + sizeI c3 m) - 1) g21 g22 m hm
  obtain ⟨x2, f2, K2⟩ := two_ok c3 (sizeI c1 m + (sizeI c2 m + sizeI c3 m) - 1) g20 m hm
  obtain ⟨y20, y21, y22⟩ := size_len hm l2
  have v2 : b2i (decide (0 < mix c3 9931 3)) = 1 := by simp [b2i, t3]
  rw [v2] at y22
  have q0 : d0.length ≤ 10 := by omega
  have q1 : d1.length ≤ 10 := by omega
  have q2 : d2.length ≤ 10 := by omega
  refine ⟨((((d0 ++ d1) ++ d2) ++ [x2])), ?_, by first | omega | (simp; omega) | simp, by first | omega | (simp; omega) | simp, ?_⟩
  · have B : ∀ n : Nat, n ≤ 40 → n ≤ 1000000 := fun n _ => by omega
    have s0 : d0.length ≤ 1000000 := by omega
    have s1 : d0.length + d1.length ≤ 1000000 := by omega
    have s2 : d0.length + d1.length + d2.length ≤ 1000000 := by omega
    have s3 : d0.length + d1.length + d2.length < 1000000 := by omega
    have s4 : d0.length + d1.length + d2.length + 1 + 1 ≤ 1000000 := by omega
    have s5 : d0.length + d1.length + d2.length + 1 ≤ 999999 := by omega
    simp (config := { decide := true }) only [m_law_dance, F_law_dance, B_law_dance_1, B_law_dance_2, runD, sRet, sq, sIf, bB, b1, b2, b3, b1F, b2F, b3S, vget, rget, gL, gM, vAnd, vOr, vNot, bAnd, bOr, bNot, bTru, truD, asB, asI, oI, aCons, sSet, sSetL, sAsg, gN, gNl, gCs, gT, sFor, forD, sWhile, sComp, compL, iL, iT, iR1, iR2, iEn, enumF, asL, asT, rng, RD.inR, sApp, sSetIx, frz, addO, subO, mulO, modO, fdivO, negO, ixO, lenO, tupO, lstO, intO, eqO, neO, dep, depL, eqD, eqL, ltO, leO, gtO, geO, isO, isnO, catL, dIn, dGet, sDict, sSetM, sDnew, sDput, allO, anyO, isiO, mulT, iS, asS, slD, slF, cutD, Option.bind_some, Option.bind_none, Option.map_some, Option.map_none, List.getElem?_cons_zero, List.getElem?_cons_succ, List.getElem?_nil, List.set_cons_zero, List.set_cons_succ, List.length_cons, List.length_nil, List.map_cons, List.map_nil, List.cons_append, List.nil_append, List.append_nil, List.replicate_succ, List.replicate_zero, Nat.reduceAdd, Nat.reduceSub, Nat.reduceLeDiff, Nat.reduceLT, if_true, if_false, ite_true, ite_false, true_and, and_true, Bool.false_eq_true, decide_true, decide_false, Bool.not_true, Bool.not_false, List.range_zero, Int.toNat_zero, List.length_map, List.length_append, List.length_replicate, Nat.zero_add, Int.zero_add, reduceIte, reduceCtorEq, Int.reduceLT, Int.reduceLE, Int.reducePow, Int.reduceNeg, Int.reduceMul, Int.reduceAdd, Int.reduceSub, Int.reduceToNat, true_or, or_true, and_self, or_self, Bool.and_self, Bool.true_and, Bool.and_true, Bool.true_or, Bool.or_true, Bool.false_and, Bool.false_or, Nat.reduceMul, Nat.reducePow, Int.reduceEq, Nat.reduceEqDiff, Int.natCast_zero, Int.cast_ofNat_Int, Int.ofNat_eq_natCast, Int.natCast_one, r2, r3, List.range_one, Int.toNat_one, at0, at1, at2, at3, atm1, atm2, atm3, ix30, Int.add_assoc, decide_eq_true_eq, m_mix, em, er, e0, e1, e2, f2, z1, z2, z3, k0, k1, k2, k3, t1, t2, t3, p00, p01, p02, p10, p11, p12, p20, p21, p22, s0, s1, s2, s3, s4, s5]
  · have L : (((((d0 ++ d1) ++ d2) ++ [x2])).length : Int) = (d0.length : Int) + (d1.length : Int) + (d2.length : Int) + 1 := by first | omega | (simp; omega) | simp
    rw [L]
    exact ((((G0.mono fun n h => by omega).app (G1.mono fun n h => by omega)).app (G2.mono fun n h => by omega)).app (K2.mono fun n h => by omega))
theorem dance_3_010 {ns : List Int} {m : Int} (hm : m = 2 ∨ m = 3 ∨ m = 4) (em : 2 + mix (ns.getD 0 0) 9973 3 = m) (er : mix (ns.getD 0 0) 9967 3 = 2) (t1 : ¬ 0 < mix (ns.getD 1 0) 9931 3) (t2 :  0 < mix (ns.getD 2 0) 9931 3) (t3 : ¬ 0 < mix (ns.getD 3 0) 9931 3) :
    ∃ ds, m_law_dance [.lst (ns.map D.int)] = some (.tup [.int m, .tup (ds ++ [.tup [.str "end"]])]) ∧ 1 ≤ ds.length ∧ ds.length ≤ 39 ∧ Good m (fun n => 0 ≤ n ∧ n < (ds.length : Int) + 1) ds := by
  have k0 : m_law_cell [.lst (ns.map D.int), .int 0] = some (.int (ns.getD 0 0)) := m_cell (by decide)
  have k1 : m_law_cell [.lst (ns.map D.int), .int 1] = some (.int (ns.getD 1 0)) := m_cell (by decide)
  have k2 : m_law_cell [.lst (ns.map D.int), .int 2] = some (.int (ns.getD 2 0)) := m_cell (by decide)
  have k3 : m_law_cell [.lst (ns.map D.int), .int 3] = some (.int (ns.getD 3 0)) := m_cell (by decide)
  generalize ns.getD 0 0 = c0 at k0 em er
  generalize ns.getD 1 0 = c1 at k1 t1
  generalize ns.getD 2 0 = c2 at k2 t2
  generalize ns.getD 3 0 = c3 at k3 t3
  have z1 := m_size (c := c1) hm
  have zp1 := size_pos (c := c1) hm
  have z2 := m_size (c := c2) hm
  have zp2 := size_pos (c := c2) hm
  have z3 := m_size (c := c3) hm
  have zp3 := size_pos (c := c3) hm
  obtain ⟨g00, p00, u00⟩ := pick4 (a := 0) (b := sizeI c1 m) (c := sizeI c1 m + sizeI c2 m) (d := sizeI c1 m + (sizeI c2 m + sizeI c3 m)) (by omega) (mix_nn (c1 + 0) 9907 (m := 4) (by decide)) (mix_lt (c1 + 0) 9907 (m := 4) (by decide))
  obtain ⟨g01, p01, u01⟩ := pick4 (a := 0) (b := sizeI c1 m) (c := sizeI c1 m + sizeI c2 m) (d := sizeI c1 m + (sizeI c2 m + sizeI c3 m)) (by omega) (mix_nn (c1 + 7) 9907 (m := 4) (by decide)) (mix_lt (c1 + 7) 9907 (m := 4) (by decide))
  obtain ⟨g02, p02, u02⟩ := pick4 (a := 0) (b := sizeI c1 m) (c := sizeI c1 m + sizeI c2 m) (d := sizeI c1 m + (sizeI c2 m + sizeI c3 m)) (by omega) (mix_nn (c1 + 14) 9907 (m := 4) (by decide)) (mix_lt (c1 + 14) 9907 (m := 4) (by decide))
  obtain ⟨g10, p10, u10⟩ := pick4 (a := 0) (b := sizeI c1 m) (c := sizeI c1 m + sizeI c2 m) (d := sizeI c1 m + (sizeI c2 m + sizeI c3 m)) (by omega) (mix_nn (c2 + 0) 9907 (m := 4) (by decide)) (mix_lt (c2 + 0) 9907 (m := 4) (by decide))
  obtain ⟨g11, p11, u11⟩ := pick4 (a := 0) (b := sizeI c1 m) (c := sizeI c1 m + sizeI c2 m) (d := sizeI c1 m + (sizeI c2 m + sizeI c3 m)) (by omega) (mix_nn (c2 + 7) 9907 (m := 4) (by decide)) (mix_lt (c2 + 7) 9907 (m := 4) (by decide))
  obtain ⟨g12, p12, u12⟩ := pick4 (a := 0) (b := sizeI c1 m) (c := sizeI c1 m + sizeI c2 m) (d := sizeI c1 m + (sizeI c2 m + sizeI c3 m)) (by omega) (mix_nn (c2 + 14) 9907 (m := 4) (by decide)) (mix_lt (c2 + 14) 9907 (m := 4) (by decide))
  obtain ⟨g20, p20, u20⟩ := pick4 (a := 0) (b := sizeI c1 m) (c := sizeI c1 m + sizeI c2 m) (d := sizeI c1 m + (sizeI c2 m + sizeI c3 m)) (by omega) (mix_nn (c3 + 0) 9907 (m := 4) (by decide)) (mix_lt (c3 + 0) 9907 (m := 4) (by decide))
  obtain ⟨g21, p21, u21⟩ := pick4 (a := 0) (b := sizeI c1 m) (c := sizeI c1 m + sizeI c2 m) (d := sizeI c1 m + (sizeI c2 m + sizeI c3 m)) (by omega) (mix_nn (c3 + 7) 9907 (m := 4) (by decide)) (mix_lt (c3 + 7) 9907 (m := 4) (by decide))
  obtain ⟨g22, p22, u22⟩ := pick4 (a := 0) (b := sizeI c1 m) (c := sizeI c1 m + sizeI c2 m) (d := sizeI c1 m + (sizeI c2 m + sizeI c3 m)) (by omega) (mix_nn (c3 + 14) 9907 (m := 4) (by decide)) (mix_lt (c3 + 14) 9907 (m := 4) (by decide))
  obtain ⟨d0, e0, l0, G0⟩ := told_ok c1 (0) g00 g01 g02 m hm
  obtain ⟨y00, y01, y02⟩ := size_len hm l0
  have v0 : b2i (decide (0 < mix c1 9931 3)) = 0 := by simp [b2i, t1]
  rw [v0] at y02
  obtain ⟨d1, e1, l1, G1⟩ := told_ok c2 (sizeI c1 m) (sizeI c1 m + sizeI c2 m - 1) g11 g12 m hm
  obtain ⟨x1, f1, K1⟩ := two_ok c2 (sizeI c1 m + sizeI c2 m - 1) g10 m hm
  obtain ⟨y10, y11, y12⟩ := size_len hm l1
  have v1 : b2i (decide (0 < mix c2 9931 3)) = 1 := by simp [b2i, t2]
  rw [v1] at y12
  obtain ⟨d2, e2, l2, G2⟩ := told_ok c3 (sizeI c1 m + sizeI c2 m) g20 g21 g22 m hm
  obtain ⟨y20, y21, y22⟩ := size_len hm l2
  have v2 : b2i (decide (0 < mix c3 9931 3)) = 0 := by simp [b2i, t3]
  rw [v2] at y22
  have q0 : d0.length ≤ 10 := by omega
  have q1 : d1.length ≤ 10 := by omega
  have q2 : d2.length ≤ 10 := by omega
  refine ⟨((((d0 ++ d1) ++ [x1]) ++ d2)), ?_, by first | omega | (simp; omega) | simp, by first | omega | (simp; omega) | simp, ?_⟩
  · have B : ∀ n : Nat, n ≤ 40 → n ≤ 1000000 := fun n _ => by omega
    have s0 : d0.length ≤ 1000000 := by omega
    have s1 : d0.length + d1.length ≤ 1000000 := by omega
    have s2 : d0.length + d1.length < 1000000 := by omega
    have s3 : d0.length + d1.length + 1 + d2.length ≤ 1000000 := by omega
    have s4 : d0.length + d1.length + 1 + d2.length + 1 ≤ 1000000 := by omega
    have s5 : d0.length + d1.length + 1 + d2.length ≤ 999999 := by omega
    simp (config := { decide := true }) only [m_law_dance, F_law_dance, B_law_dance_1, B_law_dance_2, runD, sRet, sq, sIf, bB, b1, b2, b3, b1F, b2F, b3S, vget, rget, gL, gM, vAnd, vOr, vNot, bAnd, bOr, bNot, bTru, truD, asB, asI, oI, aCons, sSet, sSetL, sAsg, gN, gNl, gCs, gT, sFor, forD, sWhile, sComp, compL, iL, iT, iR1, iR2, iEn, enumF, asL, asT, rng, RD.inR, sApp, sSetIx, frz, addO, subO, mulO, modO, fdivO, negO, ixO, lenO, tupO, lstO, intO, eqO, neO, dep, depL, eqD, eqL, ltO, leO, gtO, geO, isO, isnO, catL, dIn, dGet, sDict, sSetM, sDnew, sDput, allO, anyO, isiO, mulT, iS, asS, slD, slF, cutD, Option.bind_some, Option.bind_none, Option.map_some, Option.map_none, List.getElem?_cons_zero, List.getElem?_cons_succ, List.getElem?_nil, List.set_cons_zero, List.set_cons_succ, List.length_cons, List.length_nil, List.map_cons, List.map_nil, List.cons_append, List.nil_append, List.append_nil, List.replicate_succ, List.replicate_zero, Nat.reduceAdd, Nat.reduceSub, Nat.reduceLeDiff, Nat.reduceLT, if_true, if_false, ite_true, ite_false, true_and, and_true, Bool.false_eq_true, decide_true, decide_false, Bool.not_true, Bool.not_false, List.range_zero, Int.toNat_zero, List.length_map, List.length_append, List.length_replicate, Nat.zero_add, Int.zero_add, reduceIte, reduceCtorEq, Int.reduceLT, Int.reduceLE, Int.reducePow, Int.reduceNeg, Int.reduceMul, Int.reduceAdd, Int.reduceSub, Int.reduceToNat, true_or, or_true, and_self, or_self, Bool.and_self, Bool.true_and, Bool.and_true, Bool.true_or, Bool.or_true, Bool.false_and, Bool.false_or, Nat.reduceMul, Nat.reducePow, Int.reduceEq, Nat.reduceEqDiff, Int.natCast_zero, Int.cast_ofNat_Int, Int.ofNat_eq_natCast, Int.natCast_one, r2, r3, List.range_one, Int.toNat_one, at0, at1, at2, at3, atm1, atm2, atm3, ix30, Int.add_assoc, decide_eq_true_eq, m_mix, em, er, e0, e1, e2, f1, z1, z2, z3, k0, k1, k2, k3, t1, t2, t3, p00, p01, p02, p10, p11, p12, p20, p21, p22, s0, s1, s2, s3, s4, s5]
  · have L : (((((d0 ++ d1) ++ [x1]) ++ d2)).length : Int) = (d0.length : Int) + (d1.length : Int) + 1 + (d2.length : Int) := by first | omega | (simp; omega) | simp
    rw [L]
    exact ((((G0.mono fun n h => by omega).app (G1.mono fun n h => by omega)).app (K1.mono fun n h => by omega)).app (G2.mono fun n h => by omega))
theorem dance_3_011 {ns : List Int} {m : Int} (hm : m = 2 ∨ m = 3 ∨ m = 4) (em : 2 + mix (ns.getD 0 0) 9973 3 = m) (er : mix (ns.getD 0 0) 9967 3 = 2) (t1 : ¬ 0 < mix (ns.getD 1 0) 9931 3) (t2 :  0 < mix (ns.getD 2 0) 9931 3) (t3 :  0 < mix (ns.getD 3 0) 9931 3) :
    ∃ ds, m_law_dance [.lst (ns.map D.int)] = some (.tup [.int m, .tup (ds ++ [.tup [.str "end"]])]) ∧ 1 ≤ ds.length ∧ ds.length ≤ 39 ∧ Good m (fun n => 0 ≤ n ∧ n < (ds.length : Int) + 1) ds := by
  have k0 : m_law_cell [.lst (ns.map D.int), .int 0] = some (.int (ns.getD 0 0)) := m_cell (by decide)
  have k1 : m_law_cell [.lst (ns.map D.int), .int 1] = some (.int (ns.getD 1 0)) := m_cell (by decide)
  have k2 : m_law_cell [.lst (ns.map D.int), .int 2] = some (.int (ns.getD 2 0)) := m_cell (by decide)
  have k3 : m_law_cell [.lst (ns.map D.int), .int 3] = some (.int (ns.getD 3 0)) := m_cell (by decide)
  generalize ns.getD 0 0 = c0 at k0 em er
  generalize ns.getD 1 0 = c1 at k1 t1
  generalize ns.getD 2 0 = c2 at k2 t2
  generalize ns.getD 3 0 = c3 at k3 t3
  have z1 := m_size (c := c1) hm
  have zp1 := size_pos (c := c1) hm
  have z2 := m_size (c := c2) hm
  have zp2 := size_pos (c := c2) hm
  have z3 := m_size (c := c3) hm
  have zp3 := size_pos (c := c3) hm
  obtain ⟨g00, p00, u00⟩ := pick4 (a := 0) (b := sizeI c1 m) (c := sizeI c1 m + sizeI c2 m) (d := sizeI c1 m + (sizeI c2 m + sizeI c3 m)) (by omega) (mix_nn (c1 + 0) 9907 (m := 4) (by decide)) (mix_lt (c1 + 0) 9907 (m := 4) (by decide))
  obtain ⟨g01, p01, u01⟩ := pick4 (a := 0) (b := sizeI c1 m) (c := sizeI c1 m + sizeI c2 m) (d := sizeI c1 m + (sizeI c2 m + sizeI c3 m)) (by omega) (mix_nn (c1 + 7) 9907 (m := 4) (by decide)) (mix_lt (c1 + 7) 9907 (m := 4) (by decide))
  obtain ⟨g02, p02, u02⟩ := pick4 (a := 0) (b := sizeI c1 m) (c := sizeI c1 m + sizeI c2 m) (d := sizeI c1 m + (sizeI c2 m + sizeI c3 m)) (by omega) (mix_nn (c1 + 14) 9907 (m := 4) (by decide)) (mix_lt (c1 + 14) 9907 (m := 4) (by decide))
  obtain ⟨g10, p10, u10⟩ := pick4 (a := 0) (b := sizeI c1 m) (c := sizeI c1 m + sizeI c2 m) (d := sizeI c1 m + (sizeI c2 m + sizeI c3 m)) (by omega) (mix_nn (c2 + 0) 9907 (m := 4) (by decide)) (mix_lt (c2 + 0) 9907 (m := 4) (by decide))
  obtain ⟨g11, p11, u11⟩ := pick4 (a := 0) (b := sizeI c1 m) (c := sizeI c1 m + sizeI c2 m) (d := sizeI c1 m + (sizeI c2 m + sizeI c3 m)) (by omega) (mix_nn (c2 + 7) 9907 (m := 4) (by decide)) (mix_lt (c2 + 7) 9907 (m := 4) (by decide))
  obtain ⟨g12, p12, u12⟩ := pick4 (a := 0) (b := sizeI c1 m) (c := sizeI c1 m + sizeI c2 m) (d := sizeI c1 m + (sizeI c2 m + sizeI c3 m)) (by omega) (mix_nn (c2 + 14) 9907 (m := 4) (by decide)) (mix_lt (c2 + 14) 9907 (m := 4) (by decide))
  obtain ⟨g20, p20, u20⟩ := pick4 (a := 0) (b := sizeI c1 m) (c := sizeI c1 m + sizeI c2 m) (d := sizeI c1 m + (sizeI c2 m + sizeI c3 m)) (by omega) (mix_nn (c3 + 0) 9907 (m := 4) (by decide)) (mix_lt (c3 + 0) 9907 (m := 4) (by decide))
  obtain ⟨g21, p21, u21⟩ := pick4 (a := 0) (b := sizeI c1 m) (c := sizeI c1 m + sizeI c2 m) (d := sizeI c1 m + (sizeI c2 m + sizeI c3 m)) (by omega) (mix_nn (c3 + 7) 9907 (m := 4) (by decide)) (mix_lt (c3 + 7) 9907 (m := 4) (by decide))
  obtain ⟨g22, p22, u22⟩ := pick4 (a := 0) (b := sizeI c1 m) (c := sizeI c1 m + sizeI c2 m) (d := sizeI c1 m + (sizeI c2 m + sizeI c3 m)) (by omega) (mix_nn (c3 + 14) 9907 (m := 4) (by decide)) (mix_lt (c3 + 14) 9907 (m := 4) (by decide))
  obtain ⟨d0, e0, l0, G0⟩ := told_ok c1 (0) g00 g01 g02 m hm
  obtain ⟨y00, y01, y02⟩ := size_len hm l0
  have v0 : b2i (decide (0 < mix c1 9931 3)) = 0 := by simp [b2i, t1]
  rw [v0] at y02
  obtain ⟨d1, e1, l1, G1⟩ := told_ok c2 (sizeI c1 m) (sizeI c1 m + sizeI c2 m - 1) g11 g12 m hm
  obtain ⟨x1, f1, K1⟩ := two_ok c2 (sizeI c1 m + sizeI c2 m - 1) g10 m hm
  obtain ⟨y10, y11, y12⟩ := size_len hm l1
  have v1 : b2i (decide (0 < mix c2 9931 3)) = 1 := by simp [b2i, t2]
  rw [v1] at y12
  obtain ⟨d2, e2, l2, G2⟩ := told_ok c3 (sizeI c1 m + sizeI c2 m) (sizeI c1 m + (sizeI c2 m + sizeI c3 m) - 1) g21 g22 m hm
  obtain ⟨x2, f2, K2⟩ := two_ok c3 (sizeI c1 m + (sizeI c2 m + sizeI c3 m) - 1) g20 m hm
  obtain ⟨y20, y21, y22⟩ := size_len hm l2
  have v2 : b2i (decide (0 < mix c3 9931 3)) = 1 := by simp [b2i, t3]
  rw [v2] at y22
  have q0 : d0.length ≤ 10 := by omega
  have q1 : d1.length ≤ 10 := by omega
  have q2 : d2.length ≤ 10 := by omega
  refine ⟨(((((d0 ++ d1) ++ [x1]) ++ d2) ++ [x2])), ?_, by first | omega | (simp; omega) | simp, by first | omega | (simp; omega) | simp, ?_⟩
  · have B : ∀ n : Nat, n ≤ 40 → n ≤ 1000000 := fun n _ => by omega
    have s0 : d0.length ≤ 1000000 := by omega
    have s1 : d0.length + d1.length ≤ 1000000 := by omega
    have s2 : d0.length + d1.length < 1000000 := by omega
    have s3 : d0.length + d1.length + 1 + d2.length ≤ 1000000 := by omega
    have s4 : d0.length + d1.length + 1 + d2.length < 1000000 := by omega
    have s5 : d0.length + d1.length + 1 + d2.length + 1 + 1 ≤ 1000000 := by omega
    have s6 : d0.length + d1.length + 1 + d2.length + 1 ≤ 999999 := by omega
    simp (config := { decide := true }) only [m_law_dance, F_law_dance, B_law_dance_1, B_law_dance_2, runD, sRet, sq, sIf, bB, b1, b2, b3, b1F, b2F, b3S, vget, rget, gL, gM, vAnd, vOr, vNot, bAnd, bOr, bNot, bTru, truD, asB, asI, oI, aCons, sSet, sSetL, sAsg, gN, gNl, gCs, gT, sFor, forD, sWhile, sComp, compL, iL, iT, iR1, iR2, iEn, enumF, asL, asT, rng, RD.inR, sApp, sSetIx, frz, addO, subO, mulO, modO, fdivO, negO, ixO, lenO, tupO, lstO, intO, eqO, neO, dep, depL, eqD, eqL, ltO, leO, gtO, geO, isO, isnO, catL, dIn, dGet, sDict, sSetM, sDnew, sDput, allO, anyO, isiO, mulT, iS, asS, slD, slF, cutD, Option.bind_some, Option.bind_none, Option.map_some, Option.map_none, List.getElem?_cons_zero, List.getElem?_cons_succ, List.getElem?_nil, List.set_cons_zero, List.set_cons_succ, List.length_cons, List.length_nil, List.map_cons, List.map_nil, List.cons_append, List.nil_append, List.append_nil, List.replicate_succ, List.replicate_zero, Nat.reduceAdd, Nat.reduceSub, Nat.reduceLeDiff, Nat.reduceLT, if_true, if_false, ite_true, ite_false, true_and, and_true, Bool.false_eq_true, decide_true, decide_false, Bool.not_true, Bool.not_false, List.range_zero, Int.toNat_zero, List.length_map, List.length_append, List.length_replicate, Nat.zero_add, Int.zero_add, reduceIte, reduceCtorEq, Int.reduceLT, Int.reduceLE, Int.reducePow, Int.reduceNeg, Int.reduceMul, Int.reduceAdd, Int.reduceSub, Int.reduceToNat, true_or, or_true, and_self, or_self, Bool.and_self, Bool.true_and, Bool.and_true, Bool.true_or, Bool.or_true, Bool.false_and, Bool.false_or, Nat.reduceMul, Nat.reducePow, Int.reduceEq, Nat.reduceEqDiff, Int.natCast_zero, Int.cast_ofNat_Int, Int.ofNat_eq_natCast, Int.natCast_one, r2, r3, List.range_one, Int.toNat_one, at0, at1, at2, at3, atm1, atm2, atm3, ix30, Int.add_assoc, decide_eq_true_eq, m_mix, em, er, e0, e1, e2, f1, f2, z1, z2, z3, k0, k1, k2, k3, t1, t2, t3, p00, p01, p02, p10, p11, p12, p20, p21, p22, s0, s1, s2, s3, s4, s5, s6]
  · have L : ((((((d0 ++ d1) ++ [x1]) ++ d2) ++ [x2])).length : Int) = (d0.length : Int) + (d1.length : Int) + 1 + (d2.length : Int) + 1 := by first | omega | (simp; omega) | simp
    rw [L]
    exact (((((G0.mono fun n h => by omega).app (G1.mono fun n h => by omega)).app (K1.mono fun n h => by omega)).app (G2.mono fun n h => by omega)).app (K2.mono fun n h => by omega))
theorem dance_3_100 {ns : List Int} {m : Int} (hm : m = 2 ∨ m = 3 ∨ m = 4) (em : 2 + mix (ns.getD 0 0) 9973 3 = m) (er : mix (ns.getD 0 0) 9967 3 = 2) (t1 :  0 < mix (ns.getD 1 0) 9931 3) (t2 : ¬ 0 < mix (ns.getD 2 0) 9931 3) (t3 : ¬ 0 < mix (ns.getD 3 0) 9931 3) :
    ∃ ds, m_law_dance [.lst (ns.map D.int)] = some (.tup [.int m, .tup (ds ++ [.tup [.str "end"]])]) ∧ 1 ≤ ds.length ∧ ds.length ≤ 39 ∧ Good m (fun n => 0 ≤ n ∧ n < (ds.length : Int) + 1) ds := by
  have k0 : m_law_cell [.lst (ns.map D.int), .int 0] = some (.int (ns.getD 0 0)) := m_cell (by decide)
  have k1 : m_law_cell [.lst (ns.map D.int), .int 1] = some (.int (ns.getD 1 0)) := m_cell (by decide)
  have k2 : m_law_cell [.lst (ns.map D.int), .int 2] = some (.int (ns.getD 2 0)) := m_cell (by decide)
  have k3 : m_law_cell [.lst (ns.map D.int), .int 3] = some (.int (ns.getD 3 0)) := m_cell (by decide)
  generalize ns.getD 0 0 = c0 at k0 em er
  generalize ns.getD 1 0 = c1 at k1 t1
  generalize ns.getD 2 0 = c2 at k2 t2
  generalize ns.getD 3 0 = c3 at k3 t3
  have z1 := m_size (c := c1) hm
  have zp1 := size_pos (c := c1) hm
  have z2 := m_size (c := c2) hm
  have zp2 := size_pos (c := c2) hm
  have z3 := m_size (c := c3) hm
  have zp3 := size_pos (c := c3) hm
  obtain ⟨g00, p00, u00⟩ := pick4 (a := 0) (b := sizeI c1 m) (c := sizeI c1 m + sizeI c2 m) (d := sizeI c1 m + (sizeI c2 m + sizeI c3 m)) (by omega) (mix_nn (c1 + 0) 9907 (m := 4) (by decide)) (mix_lt (c1 + 0) 9907 (m := 4) (by decide))
  obtain ⟨g01, p01, u01⟩ := pick4 (a := 0) (b := sizeI c1 m) (c := sizeI c1 m + sizeI c2 m) (d := sizeI c1 m + (sizeI c2 m + sizeI c3 m)) (by omega) (mix_nn (c1 + 7) 9907 (m := 4) (by decide)) (mix_lt (c1 + 7) 9907 (m := 4) (by decide))
  obtain ⟨g02, p02, u02⟩ := pick4 (a := 0) (b := sizeI c1 m) (c := sizeI c1 m + sizeI c2 m) (d := sizeI c1 m + (sizeI c2 m + sizeI c3 m)) (by omega) (mix_nn (c1 + 14) 9907 (m := 4) (by decide)) (mix_lt (c1 + 14) 9907 (m := 4) (by decide))
  obtain ⟨g10, p10, u10⟩ := pick4 (a := 0) (b := sizeI c1 m) (c := sizeI c1 m + sizeI c2 m) (d := sizeI c1 m + (sizeI c2 m + sizeI c3 m)) (by omega) (mix_nn (c2 + 0) 9907 (m := 4) (by decide)) (mix_lt (c2 + 0) 9907 (m := 4) (by decide))
  obtain ⟨g11, p11, u11⟩ := pick4 (a := 0) (b := sizeI c1 m) (c := sizeI c1 m + sizeI c2 m) (d := sizeI c1 m + (sizeI c2 m + sizeI c3 m)) (by omega) (mix_nn (c2 + 7) 9907 (m := 4) (by decide)) (mix_lt (c2 + 7) 9907 (m := 4) (by decide))
  obtain ⟨g12, p12, u12⟩ := pick4 (a := 0) (b := sizeI c1 m) (c := sizeI c1 m + sizeI c2 m) (d := sizeI c1 m + (sizeI c2 m + sizeI c3 m)) (by omega) (mix_nn (c2 + 14) 9907 (m := 4) (by decide)) (mix_lt (c2 + 14) 9907 (m := 4) (by decide))
  obtain ⟨g20, p20, u20⟩ := pick4 (a := 0) (b := sizeI c1 m) (c := sizeI c1 m + sizeI c2 m) (d := sizeI c1 m + (sizeI c2 m + sizeI c3 m)) (by omega) (mix_nn (c3 + 0) 9907 (m := 4) (by decide)) (mix_lt (c3 + 0) 9907 (m := 4) (by decide))
  obtain ⟨g21, p21, u21⟩ := pick4 (a := 0) (b := sizeI c1 m) (c := sizeI c1 m + sizeI c2 m) (d := sizeI c1 m + (sizeI c2 m + sizeI c3 m)) (by omega) (mix_nn (c3 + 7) 9907 (m := 4) (by decide)) (mix_lt (c3 + 7) 9907 (m := 4) (by decide))
  obtain ⟨g22, p22, u22⟩ := pick4 (a := 0) (b := sizeI c1 m) (c := sizeI c1 m + sizeI c2 m) (d := sizeI c1 m + (sizeI c2 m + sizeI c3 m)) (by omega) (mix_nn (c3 + 14) 9907 (m := 4) (by decide)) (mix_lt (c3 + 14) 9907 (m := 4) (by decide))
  obtain ⟨d0, e0, l0, G0⟩ := told_ok c1 (0) (sizeI c1 m - 1) g01 g02 m hm
  obtain ⟨x0, f0, K0⟩ := two_ok c1 (sizeI c1 m - 1) g00 m hm
  obtain ⟨y00, y01, y02⟩ := size_len hm l0
  have v0 : b2i (decide (0 < mix c1 9931 3)) = 1 := by simp [b2i, t1]
  rw [v0] at y02
  obtain ⟨d1, e1, l1, G1⟩ := told_ok c2 (sizeI c1 m) g10 g11 g12 m hm
  obtain ⟨y10, y11, y12⟩ := size_len hm l1
  have v1 : b2i (decide (0 < mix c2 9931 3)) = 0 := by simp [b2i, t2]
  rw [v1] at y12
  obtain ⟨d2, e2, l2, G2⟩ := told_ok c3 (sizeI c1 m + sizeI c2 m) g20 g21 g22 m hm
  obtain ⟨y20, y21, y22⟩ := size_len hm l2
  have v2 : b2i (decide (0 < mix c3 9931 3)) = 0 := by simp [b2i, t3]
  rw [v2] at y22
  have q0 : d0.length ≤ 10 := by omega
  have q1 : d1.length ≤ 10 := by omega
  have q2 : d2.length ≤ 10 := by omega
  refine ⟨((((d0 ++ [x0]) ++ d1) ++ d2)), ?_, by first | omega | (simp; omega) | simp, by first | omega | (simp; omega) | simp, ?_⟩
  · have B : ∀ n : Nat, n ≤ 40 → n ≤ 1000000 := fun n _ => by omega
    have s0 : d0.length ≤ 1000000 := by omega
    have s1 : d0.length < 1000000 := by omega
    have s2 : d0.length + 1 + d1.length ≤ 1000000 := by omega
    have s3 : d0.length + 1 + d1.length + d2.length ≤ 1000000 := by omega
    have s4 : d0.length + 1 + d1.length + d2.length + 1 ≤ 1000000 := by omega
    have s5 : d0.length + 1 + d1.length + d2.length ≤ 999999 := by omega
    simp (config := { decide := true }) only [m_law_dance, F_law_dance, B_law_dance_1, B_law_dance_2, runD, sRet, sq, sIf, bB, b1, b2, b3, b1F, b2F, b3S, vget, rget, gL, gM, vAnd, vOr, vNot, bAnd, bOr, bNot, bTru, truD, asB, asI, oI, aCons, sSet, sSetL, sAsg, gN, gNl, gCs, gT, sFor, forD, sWhile, sComp, compL, iL, iT, iR1, iR2, iEn, enumF, asL, asT, rng, RD.inR, sApp, sSetIx, frz, addO, subO, mulO, modO, fdivO, negO, ixO, lenO, tupO, lstO, intO, eqO, neO, dep, depL, eqD, eqL, ltO, leO, gtO, geO, isO, isnO, catL, dIn, dGet, sDict, sSetM, sDnew, sDput, allO, anyO, isiO, mulT, iS, asS, slD, slF, cutD, Option.bind_some, Option.bind_none, Option.map_some, Option.map_none, List.getElem?_cons_zero, List.getElem?_cons_succ, List.getElem?_nil, List.set_cons_zero, List.set_cons_succ, List.length_cons, List.length_nil, List.map_cons, List.map_nil, List.cons_append, List.nil_append, List.append_nil, List.replicate_succ, List.replicate_zero, Nat.reduceAdd, Nat.reduceSub, Nat.reduceLeDiff, Nat.reduceLT, if_true, if_false, ite_true, ite_false, true_and, and_true, Bool.false_eq_true, decide_true, decide_false, Bool.not_true, Bool.not_false, List.range_zero, Int.toNat_zero, List.length_map, List.length_append, List.length_replicate, Nat.zero_add, Int.zero_add, reduceIte, reduceCtorEq, Int.reduceLT, Int.reduceLE, Int.reducePow, Int.reduceNeg, Int.reduceMul, Int.reduceAdd, Int.reduceSub, Int.reduceToNat, true_or, or_true, and_self, or_self, Bool.and_self, Bool.true_and, Bool.and_true, Bool.true_or, Bool.or_true, Bool.false_and, Bool.false_or, Nat.reduceMul, Nat.reducePow, Int.reduceEq, Nat.reduceEqDiff, Int.natCast_zero, Int.cast_ofNat_Int, Int.ofNat_eq_natCast, Int.natCast_one, r2, r3, List.range_one, Int.toNat_one, at0, at1, at2, at3, atm1, atm2, atm3, ix30, Int.add_assoc, decide_eq_true_eq, m_mix, em, er, e0, e1, e2, f0, z1, z2, z3, k0, k1, k2, k3, t1, t2, t3, p00, p01, p02, p10, p11, p12, p20, p21, p22, s0, s1, s2, s3, s4, s5]
  · have L : (((((d0 ++ [x0]) ++ d1) ++ d2)).length : Int) = (d0.length : Int) + 1 + (d1.length : Int) + (d2.length : Int) := by first | omega | (simp; omega) | simp
    rw [L]
    exact ((((G0.mono fun n h => by omega).app (K0.mono fun n h => by omega)).app (G1.mono fun n h => by omega)).app (G2.mono fun n h => by omega))
theorem dance_3_101 {ns : List Int} {m : Int} (hm : m = 2 ∨ m = 3 ∨ m = 4) (em : 2 + mix (ns.getD 0 0) 9973 3 = m) (er : mix (ns.getD 0 0) 9967 3 = 2) (t1 :  0 < mix (ns.getD 1 0) 9931 3) (t2 : ¬ 0 < mix (ns.getD 2 0) 9931 3) (t3 :  0 < mix (ns.getD 3 0) 9931 3) :
    ∃ ds, m_law_dance [.lst (ns.map D.int)] = some (.tup [.int m, .tup (ds ++ [.tup [.str "end"]])]) ∧ 1 ≤ ds.length ∧ ds.length ≤ 39 ∧ Good m (fun n => 0 ≤ n ∧ n < (ds.length : Int) + 1) ds := by
  have k0 : m_law_cell [.lst (ns.map D.int), .int 0] = some (.int (ns.getD 0 0)) := m_cell (by decide)
  have k1 : m_law_cell [.lst (ns.map D.int), .int 1] = some (.int (ns.getD 1 0)) := m_cell (by decide)
  have k2 : m_law_cell [.lst (ns.map D.int), .int 2] = some (.int (ns.getD 2 0)) := m_cell (by decide)
  have k3 : m_law_cell [.lst (ns.map D.int), .int 3] = some (.int (ns.getD 3 0)) := m_cell (by decide)
  generalize ns.getD 0 0 = c0 at k0 em er
  generalize ns.getD 1 0 = c1 at k1 t1
  generalize ns.getD 2 0 = c2 at k2 t2
  generalize ns.getD 3 0 = c3 at k3 t3
  have z1 := m_size (c := c1) hm
  have zp1 := size_pos (c := c1) hm
  have z2 := m_size (c := c2) hm
  have zp2 := size_pos (c := c2) hm
  have z3 := m_size (c := c3) hm
  have zp3 := size_pos (c := c3) hm
  obtain ⟨g00, p00, u00⟩ := pick4 (a := 0) (b := sizeI c1 m) (c := sizeI c1 m + sizeI c2 m) (d := sizeI c1 m + (sizeI c2 m + sizeI c3 m)) (by omega) (mix_nn (c1 + 0) 9907 (m := 4) (by decide)) (mix_lt (c1 + 0) 9907 (m := 4) (by decide))
  obtain ⟨g01, p01, u01⟩ := pick4 (a := 0) (b := sizeI c1 m) (c := sizeI c1 m + sizeI c2 m) (d := sizeI c1 m + (sizeI c2 m + sizeI c3 m)) (by omega) (mix_nn (c1 + 7) 9907 (m := 4) (by decide)) (mix_lt (c1 + 7) 9907 (m := 4) (by decide))
  obtain ⟨g02, p02, u02⟩ := pick4 (a := 0) (b := sizeI c1 m) (c := sizeI c1 m + sizeI c2 m) (d := sizeI c1 m + (sizeI c2 m + sizeI c3 m)) (by omega) (mix_nn (c1 + 14) 9907 (m := 4) (by decide)) (mix_lt (c1 + 14) 9907 (m := 4) (by decide))
  obtain ⟨g10, p10, u10⟩ := pick4 (a := 0) (b := sizeI c1 m) (c := sizeI c1 m + sizeI c2 m) (d := sizeI c1 m + (sizeI c2 m + sizeI c3 m)) (by omega) (mix_nn (c2 + 0) 9907 (m := 4) (by decide)) (mix_lt (c2 + 0) 9907 (m := 4) (by decide))
  obtain ⟨g11, p11, u11⟩ := pick4 (a := 0) (b := sizeI c1 m) (c := sizeI c1 m + sizeI c2 m) (d := sizeI c1 m + (sizeI c2 m + sizeI c3 m)) (by omega) (mix_nn (c2 + 7) 9907 (m := 4) (by decide)) (mix_lt (c2 + 7) 9907 (m := 4) (by decide))
  obtain ⟨g12, p12, u12⟩ := pick4 (a := 0) (b := sizeI c1 m) (c := sizeI c1 m + sizeI c2 m) (d := sizeI c1 m + (sizeI c2 m + sizeI c3 m)) (by omega) (mix_nn (c2 + 14) 9907 (m := 4) (by decide)) (mix_lt (c2 + 14) 9907 (m := 4) (by decide))
  obtain ⟨g20, p20, u20⟩ := pick4 (a := 0) (b := sizeI c1 m) (c := sizeI c1 m + sizeI c2 m) (d := sizeI c1 m + (sizeI c2 m + sizeI c3 m)) (by omega) (mix_nn (c3 + 0) 9907 (m := 4) (by decide)) (mix_lt (c3 + 0) 9907 (m := 4) (by decide))
  obtain ⟨g21, p21, u21⟩ := pick4 (a := 0) (b := sizeI c1 m) (c := sizeI c1 m + sizeI c2 m) (d := sizeI c1 m + (sizeI c2 m + sizeI c3 m)) (by omega) (mix_nn (c3 + 7) 9907 (m := 4) (by decide)) (mix_lt (c3 + 7) 9907 (m := 4) (by decide))
  obtain ⟨g22, p22, u22⟩ := pick4 (a := 0) (b := sizeI c1 m) (c := sizeI c1 m + sizeI c2 m) (d := sizeI c1 m + (sizeI c2 m + sizeI c3 m)) (by omega) (mix_nn (c3 + 14) 9907 (m := 4) (by decide)) (mix_lt (c3 + 14) 9907 (m := 4) (by decide))
  obtain ⟨d0, e0, l0, G0⟩ := told_ok c1 (0) (sizeI c1 m - 1) g01 g02 m hm
  obtain ⟨x0, f0, K0⟩ := two_ok c1 (sizeI c1 m - 1) g00 m hm
  obtain ⟨y00, y01, y02⟩ := size_len hm l0
  have v0 : b2i (decide (0 < mix c1 9931 3)) = 1 := by simp [b2i, t1]
  rw [v0] at y02
  obtain ⟨d1, e1, l1, G1⟩ := told_ok c2 (sizeI c1 m) g10 g11 g12 m hm
  obtain ⟨y10, y11, y12⟩ := size_len hm l1
  have v1 : b2i (decide (0 < mix c2 9931 3)) = 0 := by simp [b2i, t2]
  rw [v1] at y12
  obtain ⟨d2, e2, l2, G2⟩ := told_ok c3 (sizeI c1 m + sizeI c2 m) (sizeI c1 m + (sizeI c2 m + sizeI c3 m) - 1) g21 g22 m hm
  obtain ⟨x2, f2, K2⟩ := two_ok c3 (sizeI c1 m + (sizeI c2 m + sizeI c3 m) - 1) g20 m hm
  obtain ⟨y20, y21, y22⟩ := size_len hm l2
  have v2 : b2i (decide (0 < mix c3 9931 3)) = 1 := by simp [b2i, t3]
  rw [v2] at y22
  have q0 : d0.length ≤ 10 := by omega
  have q1 : d1.length ≤ 10 := by omega
  have q2 : d2.length ≤ 10 := by omega
  refine ⟨(((((d0 ++ [x0]) ++ d1) ++ d2) ++ [x2])), ?_, by first | omega | (simp; omega) | simp, by first | omega | (simp; omega) | simp, ?_⟩
  · have B : ∀ n : Nat, n ≤ 40 → n ≤ 1000000 := fun n _ => by omega
    have s0 : d0.length ≤ 1000000 := by omega
    have s1 : d0.length < 1000000 := by omega
    have s2 : d0.length + 1 + d1.length ≤ 1000000 := by omega
    have s3 : d0.length + 1 + d1.length + d2.length ≤ 1000000 := by omega
    have s4 : d0.length + 1 + d1.length + d2.length < 1000000 := by omega
    have s5 : d0.length + 1 + d1.length + d2.length + 1 + 1 ≤ 1000000 := by omega
    have s6 : d0.length + 1 + d1.length + d2.length + 1 ≤ 999999 := by omega
    simp (config := { decide := true }) only [m_law_dance, F_law_dance, B_law_dance_1, B_law_dance_2, runD, sRet, sq, sIf, bB, b1, b2, b3, b1F, b2F, b3S, vget, rget, gL, gM, vAnd, vOr, vNot, bAnd, bOr, bNot, bTru, truD, asB, asI, oI, aCons, sSet, sSetL, sAsg, gN, gNl, gCs, gT, sFor, forD, sWhile, sComp, compL, iL, iT, iR1, iR2, iEn, enumF, asL, asT, rng, RD.inR, sApp, sSetIx, frz, addO, subO, mulO, modO, fdivO, negO, ixO, lenO, tupO, lstO, intO, eqO, neO, dep, depL, eqD, eqL, ltO, leO, gtO, geO, isO, isnO, catL, dIn, dGet, sDict, sSetM, sDnew, sDput, allO, anyO, isiO, mulT, iS, asS, slD, slF, cutD, Option.bind_some, Option.bind_none, Option.map_some, Option.map_none, List.getElem?_cons_zero, List.getElem?_cons_succ, List.getElem?_nil, List.set_cons_zero, List.set_cons_succ, List.length_cons, List.length_nil, List.map_cons, List.map_nil, List.cons_append, List.nil_append, List.append_nil, List.replicate_succ, List.replicate_zero, Nat.reduceAdd, Nat.reduceSub, Nat.reduceLeDiff, Nat.reduceLT, if_true, if_false, ite_true, ite_false, true_and, and_true, Bool.false_eq_true, decide_true, decide_false, Bool.not_true, Bool.not_false, List.range_zero, Int.toNat_zero, List.length_map, List.length_append, List.length_replicate, Nat.zero_add, Int.zero_add, reduceIte, reduceCtorEq, Int.reduceLT, Int.reduceLE, Int.reducePow, Int.reduceNeg, Int.reduceMul, Int.reduceAdd, Int.reduceSub, Int.reduceToNat, true_or, or_true, and_self, or_self, Bool.and_self, Bool.true_and, Bool.and_true, Bool.true_or, Bool.or_true, Bool.false_and, Bool.false_or, Nat.reduceMul, Nat.reducePow, Int.reduceEq, Nat.reduceEqDiff, Int.natCast_zero, Int.cast_ofNat_Int, Int.ofNat_eq_natCast, Int.natCast_one, r2, r3, List.range_one, Int.toNat_one, at0, at1, at2, at3, atm1, atm2, atm3, ix30, Int.add_assoc, decide_eq_true_eq, m_mix, em, er, e0, e1, e2, f0, f2, z1, z2, z3, k0, k1, k2, k3, t1, t2, t3, p00, p01, p02, p10, p11, p12, p20, p21, p22, s0, s1, s2, s3, s4, s5, s6]
  · have L : ((((((d0 ++ [x0]) ++ d1) ++ d2) ++ [x2])).length : Int) = (d0.length : Int) + 1 + (d1.length : Int) + (d2.length : Int) + 1 := by first | omega | (simp; omega) | simp
    rw [L]
    exact (((((G0.mono fun n h => by omega).app (K0.mono fun n h => by omega)).app (G1.mono fun n h => by omega)).app (G2.mono fun n h => by omega)).app (K2.mono fun n h => by omega))
theorem dance_3_110 {ns : List Int} {m : Int} (hm : m = 2 ∨ m = 3 ∨ m = 4) (em : 2 + mix (ns.getD 0 0) 9973 3 = m) (er : mix (ns.getD 0 0) 9967 3 = 2) (t1 :  0 < mix (ns.getD 1 0) 9931 3) (t2 :  0 < mix (ns.getD 2 0) 9931 3) (t3 : ¬ 0 < mix (ns.getD 3 0) 9931 3) :
    ∃ ds, m_law_dance [.lst (ns.map D.int)] = some (.tup [.int m, .tup (ds ++ [.tup [.str "end"]])]) ∧ 1 ≤ ds.length ∧ ds.length ≤ 39 ∧ Good m (fun n => 0 ≤ n ∧ n < (ds.length : Int) + 1) ds := by
  have k0 : m_law_cell [.lst (ns.map D.int), .int 0] = some (.int (ns.getD 0 0)) := m_cell (by decide)
  have k1 : m_law_cell [.lst (ns.map D.int), .int 1] = some (.int (ns.getD 1 0)) := m_cell (by decide)
  have k2 : m_law_cell [.lst (ns.map D.int), .int 2] = some (.int (ns.getD 2 0)) := m_cell (by decide)
  have k3 : m_law_cell [.lst (ns.map D.int), .int 3] = some (.int (ns.getD 3 0)) := m_cell (by decide)
  generalize ns.getD 0 0 = c0 at k0 em er
  generalize ns.getD 1 0 = c1 at k1 t1
  generalize ns.getD 2 0 = c2 at k2 t2
  generalize ns.getD 3 0 = c3 at k3 t3
  have z1 := m_size (c := c1) hm
  have zp1 := size_pos (c := c1) hm
  have z2 := m_size (c := c2) hm
  have zp2 := size_pos (c := c2) hm
  have z3 := m_size (c := c3) hm
  have zp3 := size_pos (c := c3) hm
  obtain ⟨g00, p00, u00⟩ := pick4 (a := 0) (b := sizeI c1 m) (c := sizeI c1 m + sizeI c2 m) (d := sizeI c1 m + (sizeI c2 m + sizeI c3 m)) (by omega) (mix_nn (c1 + 0) 9907 (m := 4) (by decide)) (mix_lt (c1 + 0) 9907 (m := 4) (by decide))
  obtain ⟨g01, p01, u01⟩ := pick4 (a := 0) (b := sizeI c1 m) (c := sizeI c1 m + sizeI c2 m) (d := sizeI c1 m + (sizeI c2 m + sizeI c3 m)) (by omega) (mix_nn (c1 + 7) 9907 (m := 4) (by decide)) (mix_lt (c1 + 7) 9907 (m := 4) (by decide))
  obtain ⟨g02, p02, u02⟩ := pick4 (a := 0) (b := sizeI c1 m) (c := sizeI c1 m + sizeI c2 m) (d := sizeI c1 m + (sizeI c2 m + sizeI c3 m)) (by omega) (mix_nn (c1 + 14) 9907 (m := 4) (by decide)) (mix_lt (c1 + 14) 9907 (m := 4) (by decide))
  obtain ⟨g10, p10, u10⟩ := pick4 (a := 0) (b := sizeI c1 m) (c := sizeI c1 m + sizeI c2 m) (d := sizeI c1 m + (sizeI c2 m + sizeI c3 m)) (by omega) (mix_nn (c2 + 0) 9907 (m := 4) (by decide)) (mix_lt (c2 + 0) 9907 (m := 4) (by decide))
  obtain ⟨g11, p11, u11⟩ := pick4 (a := 0) (b := sizeI c1 m) (c := sizeI c1 m + sizeI c2 m) (d := sizeI c1 m + (sizeI c2 m + sizeI c3 m)) (by omega) (mix_nn (c2 + 7) 9907 (m := 4) (by decide)) (mix_lt (c2 + 7) 9907 (m := 4) (by decide))
  obtain ⟨g12, p12, u12⟩ := pick4 (a := 0) (b := sizeI c1 m) (c := sizeI c1 m + sizeI c2 m) (d := sizeI c1 m + (sizeI c2 m + sizeI c3 m)) (by omega) (mix_nn (c2 + 14) 9907 (m := 4) (by decide)) (mix_lt (c2 + 14) 9907 (m := 4) (by decide))
  obtain ⟨g20, p20, u20⟩ := pick4 (a := 0) (b := sizeI c1 m) (c := sizeI c1 m + sizeI c2 m) (d := sizeI c1 m + (sizeI c2 m + sizeI c3 m)) (by omega) (mix_nn (c3 + 0) 9907 (m := 4) (by decide)) (mix_lt (c3 + 0) 9907 (m := 4) (by decide))
  obtain ⟨g21, p21, u21⟩ := pick4 (a := 0) (b := sizeI c1 m) (c := sizeI c1 m + sizeI c2 m) (d := sizeI c1 m + (sizeI c2 m + sizeI c3 m)) (by omega) (mix_nn (c3 + 7) 9907 (m := 4) (by decide)) (mix_lt (c3 + 7) 9907 (m := 4) (by decide))
  obtain ⟨g22, p22, u22⟩ := pick4 (a := 0) (b := sizeI c1 m) (c := sizeI c1 m + sizeI c2 m) (d := sizeI c1 m + (sizeI c2 m + sizeI c3 m)) (by omega) (mix_nn (c3 + 14) 9907 (m := 4) (by decide)) (mix_lt (c3 + 14) 9907 (m := 4) (by decide))
  obtain ⟨d0, e0, l0, G0⟩ := told_ok c1 (0) (sizeI c1 m - 1) g01 g02 m hm
  obtain ⟨x0, f0, K0⟩ := two_ok c1 (sizeI c1 m - 1) g00 m hm
  obtain ⟨y00, y01, y02⟩ := size_len hm l0
  have v0 : b2i (decide (0 < mix c1 9931 3)) = 1 := by simp [b2i, t1]
  rw [v0] at y02
  obtain ⟨d1, e1, l1, G1⟩ := told_ok c2 (sizeI c1 m) (sizeI c1 m + sizeI c2 m - 1) g11 g12 m hm
  obtain ⟨x1, f1, K1⟩ := two_ok c2 (sizeI c1 m + sizeI c2 m - 1) g10 m hm
  obtain ⟨y10, y11, y12⟩ := size_len hm l1
  have v1 : b2i (decide (0 < mix c2 9931 3)) = 1 := by simp [b2i, t2]
  rw [v1] at y12
  obtain ⟨d2, e2, l2, G2⟩ := told_ok c3 (sizeI c1 m + sizeI c2 m) g20 g21 g22 m hm
  obtain ⟨y20, y21, y22⟩ := size_len hm l2
  have v2 : b2i (decide (0 < mix c3 9931 3)) = 0 := by simp [b2i, t3]
  rw [v2] at y22
  have q0 : d0.length ≤ 10 := by omega
  have q1 : d1.length ≤ 10 := by omega
  have q2 : d2.length ≤ 10 := by omega
  refine ⟨(((((d0 ++ [x0]) ++ d1) ++ [x1]) ++ d2)), ?_, by first | omega | (simp; omega) | simp, by first | omega | (simp; omega) | simp, ?_⟩
  · have B : ∀ n : Nat, n ≤ 40 → n ≤ 1000000 := fun n _ => by omega
    have s0 : d0.length ≤ 1000000 := by omega
    have s1 : d0.length < 1000000 := by omega
    have s2 : d0.length + 1 + d1.length ≤ 1000000 := by omega
    have s3 : d0.length + 1 + d1.length < 1000000 := by omega
    have s4 : d0.length + 1 + d1.length + 1 + d2.length ≤ 1000000 := by omega
    have s5 : d0.length + 1 + d1.length + 1 + d2.length + 1 ≤ 1000000 := by omega
    have s6 : d0.length + 1 + d1.length + 1 + d2.length ≤ 999999 := by omega
    simp (config := { decide := true }) only [m_law_dance, F_law_dance, B_law_dance_1, B_law_dance_2, runD, sRet, sq, sIf, bB, b1, b2, b3, b1F, b2F, b3S, vget, rget, gL, gM, vAnd, vOr, vNot, bAnd, bOr, bNot, bTru, truD, asB, asI, oI, aCons, sSet, sSetL, sAsg, gN, gNl, gCs, gT, sFor, forD, sWhile, sComp, compL, iL, iT, iR1, iR2, iEn, enumF, asL, asT, rng, RD.inR, sApp, sSetIx, frz, addO, subO, mulO, modO, fdivO, negO, ixO, lenO, tupO, lstO, intO, eqO, neO, dep, depL, eqD, eqL, ltO, leO, gtO, geO, isO, isnO, catL, dIn, dGet, sDict, sSetM, sDnew, sDput, allO, anyO, isiO, mulT, iS, asS, slD, slF, cutD, Option.bind_some, Option.bind_none, Option.map_some, Option.map_none, List.getElem?_cons_zero, List.getElem?_cons_succ, List.getElem?_nil, List.set_cons_zero, List.set_cons_succ, List.length_cons, List.length_nil, List.map_cons, List.map_nil, List.cons_append, List.nil_append, List.append_nil, List.replicate_succ, List.replicate_zero, Nat.reduceAdd, Nat.reduceSub, Nat.reduceLeDiff, Nat.reduceLT, if_true, if_false, ite_true, ite_false, true_and, and_true, Bool.false_eq_true, decide_true, decide_false, Bool.not_true, Bool.not_false, List.range_zero, Int.toNat_zero, List.length_map, List.length_append, List.length_replicate, Nat.zero_add, Int.zero_add, reduceIte, reduceCtorEq, Int.reduceLT, Int.reduceLE, Int.reducePow, Int.reduceNeg, Int.reduceMul, Int.reduceAdd, Int.reduceSub, Int.reduceToNat, true_or, or_true, and_self, or_self, Bool.and_self, Bool.true_and, Bool.and_true, Bool.true_or, Bool.or_true, Bool.false_and, Bool.false_or, Nat.reduceMul, Nat.reducePow, Int.reduceEq, Nat.reduceEqDiff, Int.natCast_zero, Int.cast_ofNat_Int, Int.ofNat_eq_natCast, Int.natCast_one, r2, r3, List.range_one, Int.toNat_one, at0, at1, at2, at3, atm1, atm2, atm3, ix30, Int.add_assoc, decide_eq_true_eq, m_mix, em, er, e0, e1, e2, f0, f1, z1, z2, z3, k0, k1, k2, k3, t1, t2, t3, p00, p01, p02, p10, p11, p12, p20, p21, p22, s0, s1, s2, s3, s4, s5, s6]
  · have L : ((((((d0 ++ [x0]) ++ d1) ++ [x1]) ++ d2)).length : Int) = (d0.length : Int) + 1 + (d1.length : Int) + 1 + (d2.length : Int) := by first | omega | (simp; omega) | simp
    rw [L]
    exact (((((G0.mono fun n h => by omega).app (K0.mono fun n h => by omega)).app (G1.mono fun n h => by omega)).app (K1.mono fun n h => by omega)).app (G2.mono fun n h => by omega))
theorem dance_3_111 {ns : List Int} {m : Int} (hm : m = 2 ∨ m = 3 ∨ m = 4) (em : 2 + mix (ns.getD 0 0) 9973 3 = m) (er : mix (ns.getD 0 0) 9967 3 = 2) (t1 :  0 < mix (ns.getD 1 0) 9931 3) (t2 :  0 < mix (ns.getD 2 0) 9931 3) (t3 :  0 < mix (ns.getD 3 0) 9931 3) :
    ∃ ds, m_law_dance [.lst (ns.map D.int)] = some (.tup [.int m, .tup (ds ++ [.tup [.str "end"]])]) ∧ 1 ≤ ds.length ∧ ds.length ≤ 39 ∧ Good m (fun n => 0 ≤ n ∧ n < (ds.length : Int) + 1) ds := by
  have k0 : m_law_cell [.lst (ns.map D.int), .int 0] = some (.int (ns.getD 0 0)) := m_cell (by decide)
  have k1 : m_law_cell [.lst (ns.map D.int), .int 1] = some (.int (ns.getD 1 0)) := m_cell (by decide)
  have k2 : m_law_cell [.lst (ns.map D.int), .int 2] = some (.int (ns.getD 2 0)) := m_cell (by decide)
  have k3 : m_law_cell [.lst (ns.map D.int), .int 3] = some (.int (ns.getD 3 0)) := m_cell (by decide)
  generalize ns.getD 0 0 = c0 at k0 em er
  generalize ns.getD 1 0 = c1 at k1 t1
  generalize ns.getD 2 0 = c2 at k2 t2
  generalize ns.getD 3 0 = c3 at k3 t3
  have z1 := m_size (c := c1) hm
  have zp1 := size_pos (c := c1) hm
  have z2 := m_size (c := c2) hm
  have zp2 := size_pos (c := c2) hm
  have z3 := m_size (c := c3) hm
  have zp3 := size_pos (c := c3) hm
  obtain ⟨g00, p00, u00⟩ := pick4 (a := 0) (b := sizeI c1 m) (c := sizeI c1 m + sizeI c2 m) (d := sizeI c1 m + (sizeI c2 m + sizeI c3 m)) (by omega) (mix_nn (c1 + 0) 9907 (m := 4) (by decide)) (mix_lt (c1 + 0) 9907 (m := 4) (by decide))
  obtain ⟨g01, p01, u01⟩ := pick4 (a := 0) (b := sizeI c1 m) (c := sizeI c1 m + sizeI c2 m) (d := sizeI c1 m + (sizeI c2 m + sizeI c3 m)) (by omega) (mix_nn (c1 + 7) 9907 (m := 4) (by decide)) (mix_lt (c1 + 7) 9907 (m := 4) (by decide))
  obtain ⟨g02, p02, u02⟩ := pick4 (a := 0) (b := sizeI c1 m) (c := sizeI c1 m + sizeI c2 m) (d := sizeI c1 m + (sizeI c2 m + sizeI c3 m)) (by omega) (mix_nn (c1 + 14) 9907 (m := 4) (by decide)) (mix_lt (c1 + 14) 9907 (m := 4) (by decide))
  obtain ⟨g10, p10, u10⟩ := pick4 (a := 0) (b := sizeI c1 m) (c := sizeI c1 m + sizeI c2 m) (d := sizeI c1 m + (sizeI c2 m + sizeI c3 m)) (by omega) (mix_nn (c2 + 0) 9907 (m := 4) (by decide)) (mix_lt (c2 + 0) 9907 (m := 4) (by decide))
  obtain ⟨g11, p11, u11⟩ := pick4 (a := 0) (b := sizeI c1 m) (c := sizeI c1 m + sizeI c2 m) (d := sizeI c1 m + (sizeI c2 m + sizeI c3 m)) (by omega) (mix_nn (c2 + 7) 9907 (m := 4) (by decide)) (mix_lt (c2 + 7) 9907 (m := 4) (by decide))
  obtain ⟨g12, p12, u12⟩ := pick4 (a := 0) (b := sizeI c1 m) (c := sizeI c1 m + sizeI c2 m) (d := sizeI c1 m + (sizeI c2 m + sizeI c3 m)) (by omega) (mix_nn (c2 + 14) 9907 (m := 4) (by decide)) (mix_lt (c2 + 14) 9907 (m := 4) (by decide))
  obtain ⟨g20, p20, u20⟩ := pick4 (a := 0) (b := sizeI c1 m) (c := sizeI c1 m + sizeI c2 m) (d := sizeI c1 m + (sizeI c2 m + sizeI c3 m)) (by omega) (mix_nn (c3 + 0) 9907 (m := 4) (by decide)) (mix_lt (c3 + 0) 9907 (m := 4) (by decide))
  obtain ⟨g21, p21, u21⟩ := pick4 (a := 0) (b := sizeI c1 m) (c := sizeI c1 m + sizeI c2 m) (d := sizeI c1 m + (sizeI c2 m + sizeI c3 m)) (by omega) (mix_nn (c3 + 7) 9907 (m := 4) (by decide)) (mix_lt (c3 + 7) 9907 (m := 4) (by decide))
  obtain ⟨g22, p22, u22⟩ := pick4 (a := 0) (b := sizeI c1 m) (c := sizeI c1 m + sizeI c2 m) (d := sizeI c1 m + (sizeI c2 m + sizeI c3 m)) (by omega) (mix_nn (c3 + 14) 9907 (m := 4) (by decide)) (mix_lt (c3 + 14) 9907 (m := 4) (by decide))
  obtain ⟨d0, e0, l0, G0⟩ := told_ok c1 (0) (sizeI c1 m - 1) g01 g02 m hm
  obtain ⟨x0, f0, K0⟩ := two_ok c1 (sizeI c1 m - 1) g00 m hm
  obtain ⟨y00, y01, y02⟩ := size_len hm l0
  have v0 : b2i (decide (0 < mix c1 9931 3)) = 1 := by simp [b2i, t1]
  rw [v0] at y02
  obtain ⟨d1, e1, l1, G1⟩ := told_ok c2 (sizeI c1 m) (sizeI c1 m + sizeI c2 m - 1) g11 g12 m hm
  obtain ⟨x1, f1, K1⟩ := two_ok c2 (sizeI c1 m + sizeI c2 m - 1) g10 m hm
  obtain ⟨y10, y11, y12⟩ := size_len hm l1
  have v1 : b2i (decide (0 < mix c2 9931 3)) = 1 := by simp [b2i, t2]
  rw [v1] at y12
  obtain ⟨d2, e2, l2, G2⟩ := told_ok c3 (sizeI c1 m + sizeI c2 m) (sizeI c1 m + (sizeI c2 m + sizeI c3 m) - 1) g21 g22 m hm
  obtain ⟨x2, f2, K2⟩ := two_ok c3 (sizeI c1 m + (sizeI c2 m + sizeI c3 m) - 1) g20 m hm
  obtain ⟨y20, y21, y22⟩ := size_len hm l2
  have v2 : b2i (decide (0 < mix c3 9931 3)) = 1 := by simp [b2i, t3]
  rw [v2] at y22
  have q0 : d0.length ≤ 10 := by omega
  have q1 : d1.length ≤ 10 := by omega
  have q2 : d2.length ≤ 10 := by omega
  refine ⟨((((((d0 ++ [x0]) ++ d1) ++ [x1]) ++ d2) ++ [x2])), ?_, by first | omega | (simp; omega) | simp, by first | omega | (simp; omega) | simp, ?_⟩
  · have B : ∀ n : Nat, n ≤ 40 → n ≤ 1000000 := fun n _ => by omega
    have s0 : d0.length ≤ 1000000 := by omega
    have s1 : d0.length < 1000000 := by omega
    have s2 : d0.length + 1 + d1.length ≤ 1000000 := by omega
    have s3 : d0.length + 1 + d1.length < 1000000 := by omega
    have s4 : d0.length + 1 + d1.length + 1 + d2.length ≤ 1000000 := by omega
    have s5 : d0.length + 1 + d1.length + 1 + d2.length < 1000000 := by omega
    have s6 : d0.length + 1 + d1.length + 1 + d2.length + 1 + 1 ≤ 1000000 := by omega
    have s7 : d0.length + 1 + d1.length + 1 + d2.length + 1 ≤ 999999 := by omega
    simp (config := { decide := true }) only [m_law_dance, F_law_dance, B_law_dance_1, B_law_dance_2, runD, sRet, sq, sIf, bB, b1, b2, b3, b1F, b2F, b3S, vget, rget, gL, gM, vAnd, vOr, vNot, bAnd, bOr, bNot, bTru, truD, asB, asI, oI, aCons, sSet, sSetL, sAsg, gN, gNl, gCs, gT, sFor, forD, sWhile, sComp, compL, iL, iT, iR1, iR2, iEn, enumF, asL, asT, rng, RD.inR, sApp, sSetIx, frz, addO, subO, mulO, modO, fdivO, negO, ixO, lenO, tupO, lstO, intO, eqO, neO, dep, depL, eqD, eqL, ltO, leO, gtO, geO, isO, isnO, catL, dIn, dGet, sDict, sSetM, sDnew, sDput, allO, anyO, isiO, mulT, iS, asS, slD, slF, cutD, Option.bind_some, Option.bind_none, Option.map_some, Option.map_none, List.getElem?_cons_zero, List.getElem?_cons_succ, List.getElem?_nil, List.set_cons_zero, List.set_cons_succ, List.length_cons, List.length_nil, List.map_cons, List.map_nil, List.cons_append, List.nil_append, List.append_nil, List.replicate_succ, List.replicate_zero, Nat.reduceAdd, Nat.reduceSub, Nat.reduceLeDiff, Nat.reduceLT, if_true, if_false, ite_true, ite_false, true_and, and_true, Bool.false_eq_true, decide_true, decide_false, Bool.not_true, Bool.not_false, List.range_zero, Int.toNat_zero, List.length_map, List.length_append, List.length_replicate, Nat.zero_add, Int.zero_add, reduceIte, reduceCtorEq, Int.reduceLT, Int.reduceLE, Int.reducePow, Int.reduceNeg, Int.reduceMul, Int.reduceAdd, Int.reduceSub, Int.reduceToNat, true_or, or_true, and_self, or_self, Bool.and_self, Bool.true_and, Bool.and_true, Bool.true_or, Bool.or_true, Bool.false_and, Bool.false_or, Nat.reduceMul, Nat.reducePow, Int.reduceEq, Nat.reduceEqDiff, Int.natCast_zero, Int.cast_ofNat_Int, Int.ofNat_eq_natCast, Int.natCast_one, r2, r3, List.range_one, Int.toNat_one, at0, at1, at2, at3, atm1, atm2, atm3, ix30, Int.add_assoc, decide_eq_true_eq, m_mix, em, er, e0, e1, e2, f0, f1, f2, z1, z2, z3, k0, k1, k2, k3, t1, t2, t3, p00, p01, p02, p10, p11, p12, p20, p21, p22, s0, s1, s2, s3, s4, s5, s6, s7]
  · have L : (((((((d0 ++ [x0]) ++ d1) ++ [x1]) ++ d2) ++ [x2])).length : Int) = (d0.length : Int) + 1 + (d1.length : Int) + 1 + (d2.length : Int) + 1 := by first | omega | (simp; omega) | simp
    rw [L]
    exact ((((((G0.mono fun n h => by omega).app (K0.mono fun n h => by omega)).app (G1.mono fun n h => by omega)).app (K1.mono fun n h => by omega)).app (G2.mono fun n h => by omega)).app (K2.mono fun n h => by omega))
theorem dance_ok (ns : List Int) : ∃ m ds, (2 ≤ m ∧ m ≤ 4) ∧ m_law_dance [.lst (ns.map D.int)] = some (.tup [.int m, .tup (ds ++ [.tup [.str "end"]])]) ∧ 1 ≤ ds.length ∧ ds.length ≤ 39 ∧ Good m (fun n => 0 ≤ n ∧ n < (ds.length : Int) + 1) ds := by
  have a0 := mix_nn (ns.getD 0 0) 9973 (m := 3) (by decide)
  have a1 := mix_lt (ns.getD 0 0) 9973 (m := 3) (by decide)
  have b0 := mix_nn (ns.getD 0 0) 9967 (m := 3) (by decide)
  have b1 := mix_lt (ns.getD 0 0) 9967 (m := 3) (by decide)
  have hm : 2 + mix (ns.getD 0 0) 9973 3 = 2 ∨ 2 + mix (ns.getD 0 0) 9973 3 = 3 ∨ 2 + mix (ns.getD 0 0) 9973 3 = 4 := by omega
  refine ⟨2 + mix (ns.getD 0 0) 9973 3, ?_⟩
  have cs : mix (ns.getD 0 0) 9967 3 = 0 ∨ mix (ns.getD 0 0) 9967 3 = 1 ∨ mix (ns.getD 0 0) 9967 3 = 2 := by omega
  suffices h : ∃ ds, m_law_dance [.lst (ns.map D.int)] = some (.tup [.int (2 + mix (ns.getD 0 0) 9973 3), .tup (ds ++ [.tup [.str "end"]])]) ∧ 1 ≤ ds.length ∧ ds.length ≤ 39 ∧ Good (2 + mix (ns.getD 0 0) 9973 3) (fun n => 0 ≤ n ∧ n < (ds.length : Int) + 1) ds by
    obtain ⟨ds, h⟩ := h
    exact ⟨ds, ⟨by omega, by omega⟩, h⟩
  rcases cs with e | e | e
  · by_cases t1 : 0 < mix (ns.getD 1 0) 9931 3
    · exact dance_1_1 hm rfl e t1
    · exact dance_1_0 hm rfl e t1
  · by_cases t1 : 0 < mix (ns.getD 1 0) 9931 3 <;> by_cases t2 : 0 < mix (ns.getD 2 0) 9931 3
    · exact dance_2_11 hm rfl e t1 t2
    · exact dance_2_10 hm rfl e t1 t2
    · exact dance_2_01 hm rfl e t1 t2
    · exact dance_2_00 hm rfl e t1 t2
  · by_cases t1 : 0 < mix (ns.getD 1 0) 9931 3 <;> by_cases t2 : 0 < mix (ns.getD 2 0) 9931 3 <;> by_cases t3 : 0 < mix (ns.getD 3 0) 9931 3
    · exact dance_3_111 hm rfl e t1 t2 t3
    · exact dance_3_110 hm rfl e t1 t2 t3
    · exact dance_3_101 hm rfl e t1 t2 t3
    · exact dance_3_100 hm rfl e t1 t2 t3
    · exact dance_3_011 hm rfl e t1 t2 t3
    · exact dance_3_010 hm rfl e t1 t2 t3
    · exact dance_3_001 hm rfl e t1 t2 t3
    · exact dance_3_000 hm rfl e t1 t2 t3
end LG

set_option Elab.async false
set_option linter.all false
set_option maxRecDepth 100000
namespace LG
open PySem L2 RD
end LG

set_option Elab.async false
set_option linter.all false
set_option maxRecDepth 100000
set_option maxHeartbeats 4000000
namespace LG
open PySem L2 RD
theorem forD_inv {g : D → Rho → Option Rho} {F : Rho → Option Out} (I : Rho → Prop) : ∀ {ds : List D} {ρ : Rho}, (∀ d ∈ ds, ∀ ρ, I ρ → ∃ ρ', (g d ρ).bind F = some (.nx ρ') ∧ I ρ') → I ρ → ∃ ρ', forD g F ds ρ = some (.nx ρ') ∧ I ρ'
  | [], ρ, _, h => ⟨ρ, rfl, h⟩
  | d :: ds, ρ, k, h => by
    obtain ⟨ρ1, e1, h1⟩ := k d List.mem_cons_self ρ h
    obtain ⟨ρ2, e2, h2⟩ := forD_inv I (ds := ds) (ρ := ρ1) (fun d' hd => k d' (List.mem_cons_of_mem _ hd)) h1
    refine ⟨ρ2, ?_, h2⟩
    obtain ⟨ρ3, e3, e4⟩ := Option.bind_eq_some_iff.mp e1
    simp only [forD, e3, Option.bind_some, e4, e2]
/-! dances -/
structure Dance (m : Int) (ps : List Pl) : Prop where
  m0 : 2 ≤ m
  m1 : m ≤ 4
  n0 : 1 ≤ ps.length
  n1 : ps.length ≤ 40
  ok : ∀ p ∈ ps, okP m (fun n => 0 ≤ n ∧ n < (ps.length : Int)) p
def dnD (m : Int) (ps : List Pl) : D := .tup [.int m, .tup (ps.map plD)]
theorem dance_is (ns : List Int) : ∃ m ps, m_law_dance [.lst (ns.map D.int)] = some (dnD m ps) ∧ Dance m ps ∧ ∃ rows, ps = rows ++ [.fin] ∧ 1 ≤ rows.length ∧ ∀ p ∈ rows, p ≠ .fin := by
  obtain ⟨m, ds, hm, e, h1, h2, ps, rfl, h3⟩ := dance_ok ns
  rw [List.length_map] at h1 h2 h3
  refine ⟨m, ps ++ [.fin], by rw [e]; simp [dnD, plD], ⟨hm.1, hm.2, by simp, by simp; omega, fun p hp => ?_⟩, ps, rfl, h1, fun p hp => (h3 p hp).2⟩
  rw [List.length_append, List.length_singleton]
  rcases List.mem_append.mp hp with hp | hp
  · exact (h3 p hp).1
  · simp at hp; subst hp; trivial
def chs : Pl → List (Str × Int)
  | .fin => []
  | .tell _ _ ch => ch
theorem at_pl {ps : List Pl} {n : Int} (h0 : 0 ≤ n) (h1 : n < (ps.length : Int)) : ∃ p, p ∈ ps ∧ ps[n.toNat]? = some p ∧ atI (ps.map plD) n = some (plD p) := by
  have h2 : n.toNat < ps.length := by omega
  refine ⟨ps[n.toNat], List.getElem_mem _, by simp [h2], ?_⟩
  simp [atI, ixN, h0, h1, h2]
theorem okP.next {m : Int} {P : Int → Prop} {p : Pl} (h : okP m P p) {q : Str × Int} (hq : q ∈ chs p) : P q.2 := by
  cases p with
  | fin => simp [chs] at hq
  | tell a b ch => exact h.nx q hq
theorem okP.rise {m : Int} {P : Int → Prop} {p : Pl} (h : okP m P p) : Rising ((chs p).map (·.1)) := by
  cases p with
  | fin => simp [chs]
  | tell a b ch => exact h.rs
theorem compL_filter {α : Type} {g : D → Rho → Option Rho} {p : Rho → Option Bool} {f : Rho → Option D} {emb : α → D} {ρ : Rho} (test : α → Bool) (out : α → D) :
    ∀ (xs : List α), (∀ x ∈ xs, ∃ ρ1, g (emb x) ρ = some ρ1 ∧ p ρ1 = some (test x) ∧ (test x = true → f ρ1 = some (out x))) → compL g p f (xs.map emb) ρ = some ((xs.filter test).map out)
  | [], _ => rfl
  | x :: xs, h => by
    have ih := compL_filter test out xs fun y hy => h y (List.mem_cons_of_mem _ hy)
    obtain ⟨ρ1, e1, e2, e3⟩ := h x List.mem_cons_self
    rw [List.map_cons, List.filter_cons]
    show (g (emb x) ρ).bind _ = _
    rw [e1, Option.bind_some, e2, Option.bind_some]
    cases t : test x with
    | true => rw [if_pos rfl, e3 t, Option.bind_some, ih, if_pos rfl]; rfl
    | false => rw [if_neg Bool.false_ne_true, ih, if_neg Bool.false_ne_true]
theorem cut_map {α : Type} (f : α → D) (xs : List α) (lo hi : Option Int) : ∃ ys : List α, cutD (xs.map f) lo hi = ys.map f ∧ ys.length ≤ xs.length ∧ ∀ y ∈ ys, y ∈ xs := by
  refine ⟨(xs.drop (HT.sIx (xs.map f).length 0 lo)).take (HT.sIx (xs.map f).length (xs.map f).length hi - HT.sIx (xs.map f).length 0 lo), ?_, ?_, fun y hy => List.mem_of_mem_drop (List.mem_of_mem_take hy)⟩
  · unfold cutD; simp only [List.map_take, List.map_drop]
  · simp [List.length_take, List.length_drop]; omega
end LG

set_option Elab.async false
set_option linter.all false
set_option maxRecDepth 100000
namespace LG
open PySem L2 RD
abbrev n_is_whole : List Str := ["thing"]
def F_is_whole : Rho → Option Out := (sRet (vAnd (b1 (fun ρ => rget ρ 0) (isiO "int")) (vNot (b1 (fun ρ => rget ρ 0) (isiO "bool")))))
def m_is_whole (ds : List D) : Option D := runD n_is_whole F_is_whole ds
abbrev n_is_number_below : List Str := ["thing", "bound"]
def F_is_number_below : Rho → Option Out := (sRet (vAnd (fun ρ => ((aCons (fun ρ => vget ρ 0) (fun _ => some [])) ρ).bind m_is_whole) (b3 (fun _ => some (D.int 0)) (fun ρ => rget ρ 0) (fun ρ => rget ρ 1) leO ltO)))
def m_is_number_below (ds : List D) : Option D := runD n_is_number_below F_is_number_below ds
abbrev n_is_word : List Str := ["thing"]
def F_is_word : Rho → Option Out := (sq (sIf (bOr (bNot (bTru (b1 (fun ρ => rget ρ 0) (isiO "str")))) (bNot (bB (b3 (fun _ => some (D.int 1)) (b1 (fun ρ => rget ρ 0) lenO) (fun _ => some (D.int 3)) leO leO)))) (sRet (fun _ => some (D.bl false))) (fun ρ => some (Out.nx ρ))) (sRet (b1 (fun ρ => ((sComp 1 (iS (fun ρ => vget ρ 0)) (gN 1) (fun _ => some true) (b3 (fun _ => some (D.str "a")) (fun ρ => rget ρ 1) (fun _ => some (D.str "z")) leO leO)) ρ).map D.lst) allO)))
def m_is_word (ds : List D) : Option D := runD n_is_word F_is_word ds
abbrev n_is_choice : List Str := ["thing", "place_count"]
def F_is_choice : Rho → Option Out := (sq (sIf (bOr (bNot (bTru (b1 (fun ρ => rget ρ 0) (isiO "tuple")))) (bB (b2 (b1 (fun ρ => rget ρ 0) lenO) (fun _ => some (D.int 2)) neO))) (sRet (fun _ => some (D.bl false))) (fun ρ => some (Out.nx ρ))) (sRet (vAnd (fun ρ => ((aCons (b2 (fun ρ => rget ρ 0) (fun _ => some (D.int 0)) ixO) (fun _ => some [])) ρ).bind m_is_word) (fun ρ => ((aCons (b2 (fun ρ => rget ρ 0) (fun _ => some (D.int 1)) ixO) (aCons (fun ρ => vget ρ 1) (fun _ => some []))) ρ).bind m_is_number_below))))
def m_is_choice (ds : List D) : Option D := runD n_is_choice F_is_choice ds
abbrev n_are_choices : List Str := ["thing", "place_count"]
def F_are_choices : Rho → Option Out := (sq (sIf (bOr (bNot (bTru (b1 (fun ρ => rget ρ 0) (isiO "tuple")))) (bNot (bB (b3 (fun _ => some (D.int 1)) (b1 (fun ρ => rget ρ 0) lenO) (fun _ => some (D.int 3)) leO leO)))) (sRet (fun _ => some (D.bl false))) (fun ρ => some (Out.nx ρ))) (sq (sIf (bNot (bTru (b1 (fun ρ => ((sComp 1 (iT (fun ρ => vget ρ 0)) (gN 2) (fun _ => some true) (fun ρ => ((aCons (fun ρ => vget ρ 2) (aCons (fun ρ => vget ρ 1) (fun _ => some []))) ρ).bind m_is_choice)) ρ).map D.lst) allO))) (sRet (fun _ => some (D.bl false))) (fun ρ => some (Out.nx ρ))) (sRet (b1 (fun ρ => ((sComp 1 (iR2 (aCons (fun _ => some (D.int 1)) (aCons (b1 (fun ρ => rget ρ 0) lenO) (fun _ => some [])))) (gN 2) (fun _ => some true) (b2 (b2 (b2 (fun ρ => rget ρ 0) (b2 (fun ρ => rget ρ 2) (fun _ => some (D.int 1)) subO) ixO) (fun _ => some (D.int 0)) ixO) (b2 (b2 (fun ρ => rget ρ 0) (fun ρ => rget ρ 2) ixO) (fun _ => some (D.int 0)) ixO) ltO)) ρ).map D.lst) allO))))
def m_are_choices (ds : List D) : Option D := runD n_are_choices F_are_choices ds
abbrev n_is_place : List Str := ["thing", "many", "place_count"]
def F_is_place : Rho → Option Out := (sq (sIf (bB (b2 (fun ρ => rget ρ 0) (fun ρ => ((aCons (fun _ => some (D.str "end")) (fun _ => some [])) ρ).map D.tup) eqO)) (sRet (fun _ => some (D.bl true))) (fun ρ => some (Out.nx ρ))) (sq (sIf (bOr (bNot (bTru (b1 (fun ρ => rget ρ 0) (isiO "tuple")))) (bOr (bB (b2 (b1 (fun ρ => rget ρ 0) lenO) (fun _ => some (D.int 4)) neO)) (bB (b2 (b2 (fun ρ => rget ρ 0) (fun _ => some (D.int 0)) ixO) (fun _ => some (D.str "tell")) neO)))) (sRet (fun _ => some (D.bl false))) (fun ρ => some (Out.nx ρ))) (sq (sIf (bOr (bNot (bTru (fun ρ => ((aCons (b2 (fun ρ => rget ρ 0) (fun _ => some (D.int 1)) ixO) (aCons (fun ρ => vget ρ 1) (fun _ => some []))) ρ).bind m_is_number_below))) (bNot (bTru (fun ρ => ((aCons (b2 (fun ρ => rget ρ 0) (fun _ => some (D.int 2)) ixO) (aCons (fun ρ => vget ρ 1) (fun _ => some []))) ρ).bind m_is_number_below)))) (sRet (fun _ => some (D.bl false))) (fun ρ => some (Out.nx ρ))) (sRet (vAnd (b2 (b2 (fun ρ => rget ρ 0) (fun _ => some (D.int 1)) ixO) (b2 (fun ρ => rget ρ 0) (fun _ => some (D.int 2)) ixO) neO) (fun ρ => ((aCons (b2 (fun ρ => rget ρ 0) (fun _ => some (D.int 3)) ixO) (aCons (fun ρ => vget ρ 2) (fun _ => some []))) ρ).bind m_are_choices))))))
def m_is_place (ds : List D) : Option D := runD n_is_place F_is_place ds
abbrev n_is_dance : List Str := ["thing", "many", "places"]
def F_is_dance : Rho → Option Out := (sq (sIf (bOr (bNot (bTru (b1 (fun ρ => rget ρ 0) (isiO "tuple")))) (bB (b2 (b1 (fun ρ => rget ρ 0) lenO) (fun _ => some (D.int 2)) neO))) (sRet (fun _ => some (D.bl false))) (fun ρ => some (Out.nx ρ))) (sq (sSet 1 (b2 (fun ρ => rget ρ 0) (fun _ => some (D.int 0)) ixO)) (sq (sSet 2 (b2 (fun ρ => rget ρ 0) (fun _ => some (D.int 1)) ixO)) (sq (sIf (bOr (bNot (bTru (fun ρ => ((aCons (fun ρ => vget ρ 1) (fun _ => some [])) ρ).bind m_is_whole))) (bNot (bB (b3 (fun _ => some (D.int 2)) (fun ρ => rget ρ 1) (fun _ => some (D.int 4)) leO leO)))) (sRet (fun _ => some (D.bl false))) (fun ρ => some (Out.nx ρ))) (sq (sIf (bOr (bNot (bTru (b1 (fun ρ => rget ρ 2) (isiO "tuple")))) (bNot (bB (b3 (fun _ => some (D.int 1)) (b1 (fun ρ => rget ρ 2) lenO) (fun _ => some (D.int 40)) leO leO)))) (sRet (fun _ => some (D.bl false))) (fun ρ => some (Out.nx ρ))) (sRet (b1 (fun ρ => ((sComp 1 (iT (fun ρ => vget ρ 2)) (gN 3) (fun _ => some true) (fun ρ => ((aCons (fun ρ => vget ρ 3) (aCons (fun ρ => vget ρ 1) (aCons (b1 (fun ρ => rget ρ 2) lenO) (fun _ => some [])))) ρ).bind m_is_place)) ρ).map D.lst) allO)))))))
def m_is_dance (ds : List D) : Option D := runD n_is_dance F_is_dance ds
abbrev n_law_bad_place : List Str := ["_law_place", "_law_many", "_law_count", "_law_cell_here", "_law_kind", "_law_one", "_law_other", "_law_choices", "_law_word_here", "_law_after", "_law_some", "_law_bad"]
def F_law_bad_place : Rho → Option Out := (sq (sAsg (fun ρ => vget ρ 0) (gT 4 (gCs (gN 4) (gCs (gN 5) (gCs (gN 6) (gCs (gN 7) gNl)))))) (sq (sAsg (b2 (fun ρ => rget ρ 7) (fun _ => some (D.int 0)) ixO) (gT 2 (gCs (gN 8) (gCs (gN 9) gNl)))) (sq (sSet 10 (fun ρ => ((aCons (fun ρ => ((aCons (fun ρ => vget ρ 4) (aCons (fun ρ => vget ρ 5) (aCons (fun ρ => vget ρ 6) (fun _ => some [])))) ρ).map D.tup) (aCons (fun ρ => ((aCons (fun ρ => vget ρ 4) (aCons (fun ρ => vget ρ 5) (aCons (fun ρ => vget ρ 5) (aCons (fun ρ => vget ρ 7) (fun _ => some []))))) ρ).map D.tup) (aCons (fun ρ => ((aCons (fun ρ => vget ρ 4) (aCons (fun ρ => vget ρ 1) (aCons (fun ρ => vget ρ 6) (aCons (fun ρ => vget ρ 7) (fun _ => some []))))) ρ).map D.tup) (aCons (fun ρ => ((aCons (fun ρ => vget ρ 4) (aCons (fun ρ => vget ρ 5) (aCons (b1 (fun _ => some (D.int 1)) negO) (aCons (fun ρ => vget ρ 7) (fun _ => some []))))) ρ).map D.tup) (fun _ => some []))))) ρ).map D.lst)) (sq (sSet 10 (fun ρ => ((b2F (fun ρ => rget ρ 10) (fun ρ => ((aCons (fun ρ => ((aCons (fun _ => some (D.str "say")) (aCons (fun ρ => vget ρ 5) (aCons (fun ρ => vget ρ 6) (aCons (fun ρ => vget ρ 7) (fun _ => some []))))) ρ).map D.tup) (aCons (fun ρ => ((b1F (fun ρ => rget ρ 0) lstO) ρ).map D.lst) (aCons (fun ρ => ((aCons (fun _ => some (D.str "end")) (aCons (fun ρ => vget ρ 5) (fun _ => some []))) ρ).map D.tup) (aCons (fun _ => some (D.str "end")) (aCons (fun _ => some D.non) (aCons (fun ρ => ((fun _ => some []) ρ).map D.tup) (aCons (fun ρ => ((aCons (fun ρ => vget ρ 4) (aCons (fun _ => some (D.bl true)) (aCons (fun _ => some (D.int 0)) (aCons (fun ρ => vget ρ 7) (fun _ => some []))))) ρ).map D.tup) (fun _ => some [])))))))) ρ).map D.lst) catL) ρ).map D.lst)) (sq (sSet 11 (fun ρ => ((aCons (fun ρ => ((fun _ => some []) ρ).map D.tup) (aCons (fun ρ => ((b1F (fun ρ => rget ρ 7) lstO) ρ).map D.lst) (aCons (fun ρ => ((aCons (fun ρ => ((aCons (fun ρ => vget ρ 8) (aCons (fun ρ => vget ρ 2) (fun _ => some []))) ρ).map D.tup) (fun _ => some [])) ρ).map D.tup) (aCons (fun ρ => ((aCons (fun ρ => ((aCons (fun _ => some (D.str "")) (aCons (fun ρ => vget ρ 9) (fun _ => some []))) ρ).map D.tup) (fun _ => some [])) ρ).map D.tup) (aCons (fun ρ => ((aCons (fun ρ => ((aCons (fun ρ => vget ρ 8) (fun _ => some [])) ρ).map D.tup) (fun _ => some [])) ρ).map D.tup) (aCons (fun ρ => ((aCons (fun ρ => ((aCons (fun _ => some (D.str "abcd")) (aCons (fun ρ => vget ρ 9) (fun _ => some []))) ρ).map D.tup) (fun _ => some [])) ρ).map D.tup) (aCons (fun ρ => ((aCons (fun ρ => ((aCons (fun _ => some (D.str "A")) (aCons (fun ρ => vget ρ 9) (fun _ => some []))) ρ).map D.tup) (fun _ => some [])) ρ).map D.tup) (fun _ => some [])))))))) ρ).map D.lst)) (sq (sSet 11 (fun ρ => ((b2F (fun ρ => rget ρ 11) (fun ρ => ((aCons (fun ρ => ((aCons (fun ρ => ((aCons (fun ρ => vget ρ 8) (aCons (fun ρ => vget ρ 9) (fun _ => some []))) ρ).map D.tup) (aCons (fun ρ => ((aCons (fun ρ => vget ρ 8) (aCons (fun ρ => vget ρ 9) (fun _ => some []))) ρ).map D.tup) (fun _ => some []))) ρ).map D.tup) (aCons (fun ρ => ((aCons (fun ρ => ((aCons (fun ρ => vget ρ 8) (aCons (fun _ => some D.non) (fun _ => some []))) ρ).map D.tup) (fun _ => some [])) ρ).map D.tup) (aCons (fun ρ => ((aCons (fun ρ => ((aCons (fun _ => some (D.str "b")) (aCons (fun ρ => vget ρ 9) (fun _ => some []))) ρ).map D.tup) (aCons (fun ρ => ((aCons (fun _ => some (D.str "a")) (aCons (fun ρ => vget ρ 9) (fun _ => some []))) ρ).map D.tup) (fun _ => some []))) ρ).map D.tup) (aCons (fun ρ => ((aCons (fun ρ => ((aCons (fun ρ => vget ρ 8) (aCons (fun _ => some (D.bl true)) (fun _ => some []))) ρ).map D.tup) (fun _ => some [])) ρ).map D.tup) (fun _ => some []))))) ρ).map D.lst) catL) ρ).map D.lst)) (sq (sSet 11 (fun ρ => ((b2F (fun ρ => rget ρ 11) (fun ρ => ((aCons (fun ρ => ((aCons (fun ρ => ((aCons (fun _ => some (D.str "a")) (aCons (fun ρ => vget ρ 9) (fun _ => some []))) ρ).map D.tup) (aCons (fun ρ => ((aCons (fun _ => some (D.str "b")) (aCons (fun ρ => vget ρ 9) (fun _ => some []))) ρ).map D.tup) (aCons (fun ρ => ((aCons (fun _ => some (D.str "c")) (aCons (fun ρ => vget ρ 9) (fun _ => some []))) ρ).map D.tup) (aCons (fun ρ => ((aCons (fun _ => some (D.str "d")) (aCons (fun ρ => vget ρ 9) (fun _ => some []))) ρ).map D.tup) (fun _ => some []))))) ρ).map D.tup) (aCons (fun ρ => ((aCons (fun ρ => ((aCons (fun _ => some (D.int 5)) (aCons (fun ρ => vget ρ 9) (fun _ => some []))) ρ).map D.tup) (fun _ => some [])) ρ).map D.tup) (aCons (fun ρ => ((aCons (fun ρ => ((aCons (fun _ => some D.non) (aCons (fun ρ => vget ρ 9) (fun _ => some []))) ρ).map D.tup) (fun _ => some [])) ρ).map D.tup) (fun _ => some [])))) ρ).map D.lst) catL) ρ).map D.lst)) (sq (sSet 11 (fun ρ => ((b2F (fun ρ => rget ρ 11) (fun ρ => ((aCons (fun ρ => ((aCons (fun ρ => ((aCons (fun _ => some (D.bl true)) (aCons (fun ρ => vget ρ 9) (fun _ => some []))) ρ).map D.tup) (fun _ => some [])) ρ).map D.tup) (aCons (fun ρ => ((aCons (fun ρ => ((aCons (fun ρ => ((aCons (fun _ => some (D.str "a")) (fun _ => some [])) ρ).map D.tup) (aCons (fun ρ => vget ρ 9) (fun _ => some []))) ρ).map D.tup) (fun _ => some [])) ρ).map D.tup) (aCons (fun ρ => ((aCons (fun ρ => ((aCons (fun ρ => ((aCons (fun _ => some (D.str "a")) (fun _ => some [])) ρ).map D.lst) (aCons (fun ρ => vget ρ 9) (fun _ => some []))) ρ).map D.tup) (fun _ => some [])) ρ).map D.tup) (aCons (fun ρ => ((aCons (fun ρ => ((aCons (fun ρ => vget ρ 8) (aCons (fun ρ => vget ρ 9) (fun _ => some []))) ρ).map D.lst) (fun _ => some [])) ρ).map D.tup) (aCons (fun ρ => ((aCons (fun ρ => ((aCons (fun ρ => vget ρ 8) (aCons (b1 (fun _ => some (D.int 1)) negO) (fun _ => some []))) ρ).map D.tup) (fun _ => some [])) ρ).map D.tup) (aCons (fun _ => some D.non) (aCons (fun _ => some (D.str "a")) (fun _ => some [])))))))) ρ).map D.lst) catL) ρ).map D.lst)) (sq (sSet 10 (fun ρ => ((b2F (fun ρ => rget ρ 10) (fun ρ => ((aCons (fun ρ => ((aCons (fun ρ => vget ρ 4) (aCons (fun _ => some D.non) (aCons (fun ρ => vget ρ 6) (aCons (fun ρ => vget ρ 7) (fun _ => some []))))) ρ).map D.tup) (aCons (fun ρ => ((aCons (fun ρ => vget ρ 4) (aCons (fun _ => some (D.str "0")) (aCons (fun ρ => vget ρ 6) (aCons (fun ρ => vget ρ 7) (fun _ => some []))))) ρ).map D.tup) (aCons (fun ρ => ((aCons (fun ρ => vget ρ 4) (aCons (fun ρ => vget ρ 5) (aCons (fun ρ => ((aCons (fun _ => some (D.int 1)) (fun _ => some [])) ρ).map D.tup) (aCons (fun ρ => vget ρ 7) (fun _ => some []))))) ρ).map D.tup) (fun _ => some [])))) ρ).map D.lst) catL) ρ).map D.lst)) (sq (sSet 10 (fun ρ => ((b2F (fun ρ => rget ρ 10) (fun ρ => ((sComp 1 (iL (fun ρ => vget ρ 11)) (gN 12) (fun _ => some true) (fun ρ => ((aCons (fun ρ => vget ρ 4) (aCons (fun ρ => vget ρ 5) (aCons (fun ρ => vget ρ 6) (aCons (fun ρ => vget ρ 12) (fun _ => some []))))) ρ).map D.tup)) ρ).map D.lst) catL) ρ).map D.lst)) (sRet (b2 (fun ρ => rget ρ 10) (b2 (fun ρ => rget ρ 3) (b1 (fun ρ => rget ρ 10) lenO) modO) ixO))))))))))))
def m_law_bad_place (ds : List D) : Option D := runD n_law_bad_place F_law_bad_place ds
end LG

set_option Elab.async false
set_option linter.all false
set_option maxRecDepth 100000
set_option maxHeartbeats 4000000
namespace LG
open PySem L2 RD
def wholeB : D → Bool
  | .int _ => true
  | _ => false
theorem m_whole (d : D) : m_is_whole [d] = some (.bl (wholeB d)) := by
  cases d <;> (simp (config := { decide := true }) only [m_is_whole, F_is_whole, runD, sRet, sq, sIf, bB, b1, b2, b3, b1F, b2F, b3S, vget, rget, gL, gM, vAnd, vOr, vNot, bAnd, bOr, bNot, bTru, truD, asB, asI, oI, aCons, sSet, sSetL, sAsg, gN, gNl, gCs, gT, sFor, forD, sWhile, sComp, compL, iL, iT, iR1, iR2, iEn, enumF, asL, asT, rng, RD.inR, sApp, sSetIx, frz, addO, subO, mulO, modO, fdivO, negO, ixO, atI, ixN, lenO, tupO, lstO, intO, eqO, neO, dep, depL, eqD, eqL, ltO, leO, gtO, geO, isO, isnO, catL, dIn, dGet, sDict, sSetM, sDnew, sDput, allO, anyO, isiO, mulT, iS, asS, slD, slF, cutD, Option.bind_some, Option.bind_none, Option.map_some, Option.map_none, List.getElem?_cons_zero, List.getElem?_cons_succ, List.getElem?_nil, List.set_cons_zero, List.set_cons_succ, List.length_cons, List.length_nil, List.map_cons, List.map_nil, List.cons_append, List.nil_append, List.append_nil, List.replicate_succ, List.replicate_zero, Nat.reduceAdd, Nat.reduceSub, Nat.reduceLeDiff, Nat.reduceLT, if_true, if_false, ite_true, ite_false, true_and, and_true, Bool.false_eq_true, decide_true, decide_false, Bool.not_true, Bool.not_false, List.range_zero, Int.toNat_zero, List.length_map, List.length_append, List.length_replicate, Nat.zero_add, Int.zero_add, reduceIte, reduceCtorEq, Int.reduceLT, Int.reduceLE, Int.reducePow, Int.reduceNeg, Int.reduceMul, Int.reduceAdd, Int.reduceSub, Int.reduceToNat, true_or, or_true, and_self, or_self, Bool.and_self, Bool.true_and, Bool.and_true, Bool.true_or, Bool.or_true, Bool.false_and, Bool.false_or, Nat.reduceMul, Nat.reducePow, Int.reduceEq, Nat.reduceEqDiff, Int.natCast_zero, Int.cast_ofNat_Int, Int.ofNat_eq_natCast, isiB, tyD, wholeB]; try rfl)
def belowB : D → Int → Bool
  | .int i, b => decide (0 ≤ i) && decide (i < b)
  | _, _ => false
theorem m_below (d : D) (b : Int) : m_is_number_below [d, .int b] = some (.bl (belowB d b)) := by
  cases d with
  | int i =>
    by_cases h : 0 ≤ i
    · simp (config := { decide := true }) only [m_is_number_below, F_is_number_below, runD, sRet, sq, sIf, bB, b1, b2, b3, b1F, b2F, b3S, vget, rget, gL, gM, vAnd, vOr, vNot, bAnd, bOr, bNot, bTru, truD, asB, asI, oI, aCons, sSet, sSetL, sAsg, gN, gNl, gCs, gT, sFor, forD, sWhile, sComp, compL, iL, iT, iR1, iR2, iEn, enumF, asL, asT, rng, RD.inR, sApp, sSetIx, frz, addO, subO, mulO, modO, fdivO, negO, ixO, atI, ixN, lenO, tupO, lstO, intO, eqO, neO, dep, depL, eqD, eqL, ltO, leO, gtO, geO, isO, isnO, catL, dIn, dGet, sDict, sSetM, sDnew, sDput, allO, anyO, isiO, mulT, iS, asS, slD, slF, cutD, Option.bind_some, Option.bind_none, Option.map_some, Option.map_none, List.getElem?_cons_zero, List.getElem?_cons_succ, List.getElem?_nil, List.set_cons_zero, List.set_cons_succ, List.length_cons, List.length_nil, List.map_cons, List.map_nil, List.cons_append, List.nil_append, List.append_nil, List.replicate_succ, List.replicate_zero, Nat.reduceAdd, Nat.reduceSub, Nat.reduceLeDiff, Nat.reduceLT, if_true, if_false, ite_true, ite_false, true_and, and_true, Bool.false_eq_true, decide_true, decide_false, Bool.not_true, Bool.not_false, List.range_zero, Int.toNat_zero, List.length_map, List.length_append, List.length_replicate, Nat.zero_add, Int.zero_add, reduceIte, reduceCtorEq, Int.reduceLT, Int.reduceLE, Int.reducePow, Int.reduceNeg, Int.reduceMul, Int.reduceAdd, Int.reduceSub, Int.reduceToNat, true_or, or_true, and_self, or_self, Bool.and_self, Bool.true_and, Bool.and_true, Bool.true_or, Bool.or_true, Bool.false_and, Bool.false_or, Nat.reduceMul, Nat.reducePow, Int.reduceEq, Nat.reduceEqDiff, Int.natCast_zero, Int.cast_ofNat_Int, Int.ofNat_eq_natCast, m_whole, wholeB, belowB, h]
    · simp (config := { decide := true }) only [m_is_number_below, F_is_number_below, runD, sRet, sq, sIf, bB, b1, b2, b3, b1F, b2F, b3S, vget, rget, gL, gM, vAnd, vOr, vNot, bAnd, bOr, bNot, bTru, truD, asB, asI, oI, aCons, sSet, sSetL, sAsg, gN, gNl, gCs, gT, sFor, forD, sWhile, sComp, compL, iL, iT, iR1, iR2, iEn, enumF, asL, asT, rng, RD.inR, sApp, sSetIx, frz, addO, subO, mulO, modO, fdivO, negO, ixO, atI, ixN, lenO, tupO, lstO, intO, eqO, neO, dep, depL, eqD, eqL, ltO, leO, gtO, geO, isO, isnO, catL, dIn, dGet, sDict, sSetM, sDnew, sDput, allO, anyO, isiO, mulT, iS, asS, slD, slF, cutD, Option.bind_some, Option.bind_none, Option.map_some, Option.map_none, List.getElem?_cons_zero, List.getElem?_cons_succ, List.getElem?_nil, List.set_cons_zero, List.set_cons_succ, List.length_cons, List.length_nil, List.map_cons, List.map_nil, List.cons_append, List.nil_append, List.append_nil, List.replicate_succ, List.replicate_zero, Nat.reduceAdd, Nat.reduceSub, Nat.reduceLeDiff, Nat.reduceLT, if_true, if_false, ite_true, ite_false, true_and, and_true, Bool.false_eq_true, decide_true, decide_false, Bool.not_true, Bool.not_false, List.range_zero, Int.toNat_zero, List.length_map, List.length_append, List.length_replicate, Nat.zero_add, Int.zero_add, reduceIte, reduceCtorEq, Int.reduceLT, Int.reduceLE, Int.reducePow, Int.reduceNeg, Int.reduceMul, Int.reduceAdd, Int.reduceSub, Int.reduceToNat, true_or, or_true, and_self, or_self, Bool.and_self, Bool.true_and, Bool.and_true, Bool.true_or, Bool.or_true, Bool.false_and, Bool.false_or, Nat.reduceMul, Nat.reducePow, Int.reduceEq, Nat.reduceEqDiff, Int.natCast_zero, Int.cast_ofNat_Int, Int.ofNat_eq_natCast, m_whole, wholeB, belowB, h]
  | _ => simp (config := { decide := true }) only [m_is_number_below, F_is_number_below, runD, sRet, sq, sIf, bB, b1, b2, b3, b1F, b2F, b3S, vget, rget, gL, gM, vAnd, vOr, vNot, bAnd, bOr, bNot, bTru, truD, asB, asI, oI, aCons, sSet, sSetL, sAsg, gN, gNl, gCs, gT, sFor, forD, sWhile, sComp, compL, iL, iT, iR1, iR2, iEn, enumF, asL, asT, rng, RD.inR, sApp, sSetIx, frz, addO, subO, mulO, modO, fdivO, negO, ixO, atI, ixN, lenO, tupO, lstO, intO, eqO, neO, dep, depL, eqD, eqL, ltO, leO, gtO, geO, isO, isnO, catL, dIn, dGet, sDict, sSetM, sDnew, sDput, allO, anyO, isiO, mulT, iS, asS, slD, slF, cutD, Option.bind_some, Option.bind_none, Option.map_some, Option.map_none, List.getElem?_cons_zero, List.getElem?_cons_succ, List.getElem?_nil, List.set_cons_zero, List.set_cons_succ, List.length_cons, List.length_nil, List.map_cons, List.map_nil, List.cons_append, List.nil_append, List.append_nil, List.replicate_succ, List.replicate_zero, Nat.reduceAdd, Nat.reduceSub, Nat.reduceLeDiff, Nat.reduceLT, if_true, if_false, ite_true, ite_false, true_and, and_true, Bool.false_eq_true, decide_true, decide_false, Bool.not_true, Bool.not_false, List.range_zero, Int.toNat_zero, List.length_map, List.length_append, List.length_replicate, Nat.zero_add, Int.zero_add, reduceIte, reduceCtorEq, Int.reduceLT, Int.reduceLE, Int.reducePow, Int.reduceNeg, Int.reduceMul, Int.reduceAdd, Int.reduceSub, Int.reduceToNat, true_or, or_true, and_self, or_self, Bool.and_self, Bool.true_and, Bool.and_true, Bool.true_or, Bool.or_true, Bool.false_and, Bool.false_or, Nat.reduceMul, Nat.reducePow, Int.reduceEq, Nat.reduceEqDiff, Int.natCast_zero, Int.cast_ofNat_Int, Int.ofNat_eq_natCast, m_whole, wholeB, belowB]
def szD (d : D) : Prop := ∀ x, d = .str x → x.length ≤ 1000000
def wordB : D → Bool
  | .str x => decide (1 ≤ x.length) && decide (x.length ≤ 3) && x.cps.toList.all fun c => decide (97 ≤ c) && decide (c ≤ 122)
  | _ => false
theorem a_str : (Str.ofString "a") = ⟨[97].toArray⟩ := by decide +kernel
theorem z_str' : (Str.ofString "z") = ⟨[122].toArray⟩ := by decide +kernel
theorem bools_map (l : List Bool) : RD.bools? (l.map D.bl) = some l := by
  induction l with
  | nil => rfl
  | cons x xs ih => simp [RD.bools?, ih]
theorem sign_test (c : Nat) (ρ : Rho) (h : ρ[1]? = some (.v (.str ⟨#[c]⟩))) : b3 (fun _ => some (D.str "a")) (fun ρ => rget ρ 1) (fun _ => some (D.str "z")) leO leO ρ = some (.bl (decide (97 ≤ c) && decide (c ≤ 122))) := by
  have e1 : (!decide ([c] < [97])) = decide (97 ≤ c) := by
    by_cases q : 97 ≤ c
    · simp [List.cons_lt_cons_iff, q]
    · simp [List.cons_lt_cons_iff, q]; omega
  have e2 : (!decide ([122] < [c])) = decide (c ≤ 122) := by
    by_cases q : c ≤ 122
    · simp [List.cons_lt_cons_iff, q]
    · simp [List.cons_lt_cons_iff, q]; omega
  simp only [b3, rget, h, leO, Option.bind_some, a_str, z_str', asB]
  rw [e1]
  cases q : decide (97 ≤ c) with
  | false => simp
  | true => simp [e2]
theorem m_word_is (d : D) (h : szD d) : m_is_word [d] = some (.bl (wordB d)) := by
  cases d with
  | str x =>
    have hl := h x rfl
    by_cases h1 : 1 ≤ x.length
    · by_cases h2 : x.length ≤ 3
      · have c := compL_filter (g := gN 1) (p := fun _ => some true) (f := b3 (fun _ => some (D.str "a")) (fun ρ => rget ρ 1) (fun _ => some (D.str "z")) leO leO) (emb := fun c => D.str ⟨#[c]⟩) (ρ := [.v (.str x), .un]) (fun _ => true) (fun c => D.bl (decide (97 ≤ c) && decide (c ≤ 122))) x.cps.toList fun c _ => ⟨_, rfl, rfl, fun _ => sign_test c _ rfl⟩
        have i1 : (1 : Int) ≤ (x.length : Int) := by omega
        have i2 : (x.length : Int) ≤ 3 := by omega
        have hc : x.cps.toList.length ≤ 1000000 := by simp only [Array.length_toList]; exact hl
        rw [List.filter_eq_self.mpr (by simp)] at c
        have e : (x.cps.toList.map fun c => D.bl (decide (97 ≤ c) && decide (c ≤ 122))) = (x.cps.toList.map fun c => decide (97 ≤ c) && decide (c ≤ 122)).map D.bl := by rw [List.map_map]; rfl
        rw [e] at c
        unfold m_is_word F_is_word
        generalize (b3 (fun _ => some (D.str "a")) (fun ρ => rget ρ 1) (fun _ => some (D.str "z")) leO leO) = el at c ⊢
        simp (config := { decide := true }) only [runD, sRet, sq, sIf, bB, b1, b2, b3, b1F, b2F, b3S, vget, rget, gL, gM, vAnd, vOr, vNot, bAnd, bOr, bNot, bTru, truD, asB, asI, oI, aCons, sSet, sSetL, sAsg, gN, gNl, gCs, gT, sFor, forD, sWhile, sComp, iL, iT, iR1, iR2, iEn, enumF, asL, asT, rng, RD.inR, sApp, sSetIx, frz, addO, subO, mulO, modO, fdivO, negO, ixO, atI, ixN, lenO, tupO, lstO, intO, eqO, neO, dep, depL, eqD, eqL, ltO, leO, gtO, geO, isO, isnO, catL, dIn, dGet, sDict, sSetM, sDnew, sDput, allO, anyO, isiO, mulT, iS, asS, slD, slF, cutD, Option.bind_some, Option.bind_none, Option.map_some, Option.map_none, List.getElem?_cons_zero, List.getElem?_cons_succ, List.getElem?_nil, List.set_cons_zero, List.set_cons_succ, List.length_cons, List.length_nil, List.map_cons, List.map_nil, List.cons_append, List.nil_append, List.append_nil, List.replicate_succ, List.replicate_zero, Nat.reduceAdd, Nat.reduceSub, Nat.reduceLeDiff, Nat.reduceLT, if_true, if_false, ite_true, ite_false, true_and, and_true, Bool.false_eq_true, decide_true, decide_false, Bool.not_true, Bool.not_false, List.range_zero, Int.toNat_zero, List.length_map, List.length_append, List.length_replicate, Nat.zero_add, Int.zero_add, reduceIte, reduceCtorEq, Int.reduceLT, Int.reduceLE, Int.reducePow, Int.reduceNeg, Int.reduceMul, Int.reduceAdd, Int.reduceSub, Int.reduceToNat, true_or, or_true, and_self, or_self, Bool.and_self, Bool.true_and, Bool.and_true, Bool.true_or, Bool.or_true, Bool.false_and, Bool.false_or, Nat.reduceMul, Nat.reducePow, Int.reduceEq, Nat.reduceEqDiff, Int.natCast_zero, Int.cast_ofNat_Int, Int.ofNat_eq_natCast, isiB, tyD, hl, i1, i2, signs, hc, c, bools_map, wordB, h1, h2, List.all_map, Function.comp_def, id]
      · have i2 : ¬ (x.length : Int) ≤ 3 := by omega
        have i1 : (1 : Int) ≤ (x.length : Int) := by omega
        simp (config := { decide := true }) only [m_is_word, F_is_word, runD, sRet, sq, sIf, bB, b1, b2, b3, b1F, b2F, b3S, vget, rget, gL, gM, vAnd, vOr, vNot, bAnd, bOr, bNot, bTru, truD, asB, asI, oI, aCons, sSet, sSetL, sAsg, gN, gNl, gCs, gT, sFor, forD, sWhile, sComp, iL, iT, iR1, iR2, iEn, enumF, asL, asT, rng, RD.inR, sApp, sSetIx, frz, addO, subO, mulO, modO, fdivO, negO, ixO, atI, ixN, lenO, tupO, lstO, intO, eqO, neO, dep, depL, eqD, eqL, ltO, leO, gtO, geO, isO, isnO, catL, dIn, dGet, sDict, sSetM, sDnew, sDput, allO, anyO, isiO, mulT, iS, asS, slD, slF, cutD, Option.bind_some, Option.bind_none, Option.map_some, Option.map_none, List.getElem?_cons_zero, List.getElem?_cons_succ, List.getElem?_nil, List.set_cons_zero, List.set_cons_succ, List.length_cons, List.length_nil, List.map_cons, List.map_nil, List.cons_append, List.nil_append, List.append_nil, List.replicate_succ, List.replicate_zero, Nat.reduceAdd, Nat.reduceSub, Nat.reduceLeDiff, Nat.reduceLT, if_true, if_false, ite_true, ite_false, true_and, and_true, Bool.false_eq_true, decide_true, decide_false, Bool.not_true, Bool.not_false, List.range_zero, Int.toNat_zero, List.length_map, List.length_append, List.length_replicate, Nat.zero_add, Int.zero_add, reduceIte, reduceCtorEq, Int.reduceLT, Int.reduceLE, Int.reducePow, Int.reduceNeg, Int.reduceMul, Int.reduceAdd, Int.reduceSub, Int.reduceToNat, true_or, or_true, and_self, or_self, Bool.and_self, Bool.true_and, Bool.and_true, Bool.true_or, Bool.or_true, Bool.false_and, Bool.false_or, Nat.reduceMul, Nat.reducePow, Int.reduceEq, Nat.reduceEqDiff, Int.natCast_zero, Int.cast_ofNat_Int, Int.ofNat_eq_natCast, isiB, tyD, hl, i1, i2, wordB, h1, h2]
    · have i1 : ¬ (1 : Int) ≤ (x.length : Int) := by omega
      simp (config := { decide := true }) only [m_is_word, F_is_word, runD, sRet, sq, sIf, bB, b1, b2, b3, b1F, b2F, b3S, vget, rget, gL, gM, vAnd, vOr, vNot, bAnd, bOr, bNot, bTru, truD, asB, asI, oI, aCons, sSet, sSetL, sAsg, gN, gNl, gCs, gT, sFor, forD, sWhile, sComp, iL, iT, iR1, iR2, iEn, enumF, asL, asT, rng, RD.inR, sApp, sSetIx, frz, addO, subO, mulO, modO, fdivO, negO, ixO, atI, ixN, lenO, tupO, lstO, intO, eqO, neO, dep, depL, eqD, eqL, ltO, leO, gtO, geO, isO, isnO, catL, dIn, dGet, sDict, sSetM, sDnew, sDput, allO, anyO, isiO, mulT, iS, asS, slD, slF, cutD, Option.bind_some, Option.bind_none, Option.map_some, Option.map_none, List.getElem?_cons_zero, List.getElem?_cons_succ, List.getElem?_nil, List.set_cons_zero, List.set_cons_succ, List.length_cons, List.length_nil, List.map_cons, List.map_nil, List.cons_append, List.nil_append, List.append_nil, List.replicate_succ, List.replicate_zero, Nat.reduceAdd, Nat.reduceSub, Nat.reduceLeDiff, Nat.reduceLT, if_true, if_false, ite_true, ite_false, true_and, and_true, Bool.false_eq_true, decide_true, decide_false, Bool.not_true, Bool.not_false, List.range_zero, Int.toNat_zero, List.length_map, List.length_append, List.length_replicate, Nat.zero_add, Int.zero_add, reduceIte, reduceCtorEq, Int.reduceLT, Int.reduceLE, Int.reducePow, Int.reduceNeg, Int.reduceMul, Int.reduceAdd, Int.reduceSub, Int.reduceToNat, true_or, or_true, and_self, or_self, Bool.and_self, Bool.true_and, Bool.and_true, Bool.true_or, Bool.or_true, Bool.false_and, Bool.false_or, Nat.reduceMul, Nat.reducePow, Int.reduceEq, Nat.reduceEqDiff, Int.natCast_zero, Int.cast_ofNat_Int, Int.ofNat_eq_natCast, isiB, tyD, hl, i1, wordB, h1]
  | _ => simp (config := { decide := true }) only [m_is_word, F_is_word, runD, sRet, sq, sIf, bB, b1, b2, b3, b1F, b2F, b3S, vget, rget, gL, gM, vAnd, vOr, vNot, bAnd, bOr, bNot, bTru, truD, asB, asI, oI, aCons, sSet, sSetL, sAsg, gN, gNl, gCs, gT, sFor, forD, sWhile, sComp, iL, iT, iR1, iR2, iEn, enumF, asL, asT, rng, RD.inR, sApp, sSetIx, frz, addO, subO, mulO, modO, fdivO, negO, ixO, atI, ixN, lenO, tupO, lstO, intO, eqO, neO, dep, depL, eqD, eqL, ltO, leO, gtO, geO, isO, isnO, catL, dIn, dGet, sDict, sSetM, sDnew, sDput, allO, anyO, isiO, mulT, iS, asS, slD, slF, cutD, Option.bind_some, Option.bind_none, Option.map_some, Option.map_none, List.getElem?_cons_zero, List.getElem?_cons_succ, List.getElem?_nil, List.set_cons_zero, List.set_cons_succ, List.length_cons, List.length_nil, List.map_cons, List.map_nil, List.cons_append, List.nil_append, List.append_nil, List.replicate_succ, List.replicate_zero, Nat.reduceAdd, Nat.reduceSub, Nat.reduceLeDiff, Nat.reduceLT, if_true, if_false, ite_true, ite_false, true_and, and_true, Bool.false_eq_true, decide_true, decide_false, Bool.not_true, Bool.not_false, List.range_zero, Int.toNat_zero, List.length_map, List.length_append, List.length_replicate, Nat.zero_add, Int.zero_add, reduceIte, reduceCtorEq, Int.reduceLT, Int.reduceLE, Int.reducePow, Int.reduceNeg, Int.reduceMul, Int.reduceAdd, Int.reduceSub, Int.reduceToNat, true_or, or_true, and_self, or_self, Bool.and_self, Bool.true_and, Bool.and_true, Bool.true_or, Bool.or_true, Bool.false_and, Bool.false_or, Nat.reduceMul, Nat.reducePow, Int.reduceEq, Nat.reduceEqDiff, Int.natCast_zero, Int.cast_ofNat_Int, Int.ofNat_eq_natCast, isiB, tyD, wordB]
def choiceB (d : D) (n : Int) : Bool := match d with
  | .tup [a, b] => wordB a && belowB b n
  | _ => false
def szC (d : D) : Prop := ∀ a b, d = .tup [a, b] → szD a
theorem m_choice_is (d : D) (n : Int) (h : szC d) : m_is_choice [d, .int n] = some (.bl (choiceB d n)) := by
  cases d with
  | tup xs =>
    match xs, h with
    | [a, b], h =>
      have e := m_word_is a (h a b rfl)
      cases q : wordB a with
      | true => simp (config := { decide := true }) only [m_is_choice, F_is_choice, runD, sRet, sq, sIf, bB, b1, b2, b3, b1F, b2F, b3S, vget, rget, gL, gM, vAnd, vOr, vNot, bAnd, bOr, bNot, bTru, truD, asB, asI, oI, aCons, sSet, sSetL, sAsg, gN, gNl, gCs, gT, sFor, forD, sWhile, sComp, compL, iL, iT, iR1, iR2, iEn, enumF, asL, asT, rng, RD.inR, sApp, sSetIx, frz, addO, subO, mulO, modO, fdivO, negO, ixO, lenO, tupO, lstO, intO, eqO, neO, dep, depL, eqD, eqL, ltO, leO, gtO, geO, isO, isnO, catL, dIn, dGet, sDict, sSetM, sDnew, sDput, allO, anyO, isiO, mulT, iS, asS, slD, slF, cutD, Option.bind_some, Option.bind_none, Option.map_some, Option.map_none, List.getElem?_cons_zero, List.getElem?_cons_succ, List.getElem?_nil, List.set_cons_zero, List.set_cons_succ, List.length_cons, List.length_nil, List.map_cons, List.map_nil, List.cons_append, List.nil_append, List.append_nil, List.replicate_succ, List.replicate_zero, Nat.reduceAdd, Nat.reduceSub, Nat.reduceLeDiff, Nat.reduceLT, if_true, if_false, ite_true, ite_false, true_and, and_true, Bool.false_eq_true, decide_true, decide_false, Bool.not_true, Bool.not_false, List.range_zero, Int.toNat_zero, List.length_map, List.length_append, List.length_replicate, Nat.zero_add, Int.zero_add, reduceIte, reduceCtorEq, Int.reduceLT, Int.reduceLE, Int.reducePow, Int.reduceNeg, Int.reduceMul, Int.reduceAdd, Int.reduceSub, Int.reduceToNat, true_or, or_true, and_self, or_self, Bool.and_self, Bool.true_and, Bool.and_true, Bool.true_or, Bool.or_true, Bool.false_and, Bool.false_or, Nat.reduceMul, Nat.reducePow, Int.reduceEq, Nat.reduceEqDiff, Int.natCast_zero, Int.cast_ofNat_Int, Int.ofNat_eq_natCast, isiB, tyD, at0, at1, e, m_below, choiceB, q, Int.reduceBEq]
      | false => simp (config := { decide := true }) only [m_is_choice, F_is_choice, runD, sRet, sq, sIf, bB, b1, b2, b3, b1F, b2F, b3S, vget, rget, gL, gM, vAnd, vOr, vNot, bAnd, bOr, bNot, bTru, truD, asB, asI, oI, aCons, sSet, sSetL, sAsg, gN, gNl, gCs, gT, sFor, forD, sWhile, sComp, compL, iL, iT, iR1, iR2, iEn, enumF, asL, asT, rng, RD.inR, sApp, sSetIx, frz, addO, subO, mulO, modO, fdivO, negO, ixO, lenO, tupO, lstO, intO, eqO, neO, dep, depL, eqD, eqL, ltO, leO, gtO, geO, isO, isnO, catL, dIn, dGet, sDict, sSetM, sDnew, sDput, allO, anyO, isiO, mulT, iS, asS, slD, slF, cutD, Option.bind_some, Option.bind_none, Option.map_some, Option.map_none, List.getElem?_cons_zero, List.getElem?_cons_succ, List.getElem?_nil, List.set_cons_zero, List.set_cons_succ, List.length_cons, List.length_nil, List.map_cons, List.map_nil, List.cons_append, List.nil_append, List.append_nil, List.replicate_succ, List.replicate_zero, Nat.reduceAdd, Nat.reduceSub, Nat.reduceLeDiff, Nat.reduceLT, if_true, if_false, ite_true, ite_false, true_and, and_true, Bool.false_eq_true, decide_true, decide_false, Bool.not_true, Bool.not_false, List.range_zero, Int.toNat_zero, List.length_map, List.length_append, List.length_replicate, Nat.zero_add, Int.zero_add, reduceIte, reduceCtorEq, Int.reduceLT, Int.reduceLE, Int.reducePow, Int.reduceNeg, Int.reduceMul, Int.reduceAdd, Int.reduceSub, Int.reduceToNat, true_or, or_true, and_self, or_self, Bool.and_self, Bool.true_and, Bool.and_true, Bool.true_or, Bool.or_true, Bool.false_and, Bool.false_or, Nat.reduceMul, Nat.reducePow, Int.reduceEq, Nat.reduceEqDiff, Int.natCast_zero, Int.cast_ofNat_Int, Int.ofNat_eq_natCast, isiB, tyD, at0, at1, e, m_below, choiceB, q, Int.reduceBEq]
    | [], _ => simp (config := { decide := true }) only [m_is_choice, F_is_choice, runD, sRet, sq, sIf, bB, b1, b2, b3, b1F, b2F, b3S, vget, rget, gL, gM, vAnd, vOr, vNot, bAnd, bOr, bNot, bTru, truD, asB, asI, oI, aCons, sSet, sSetL, sAsg, gN, gNl, gCs, gT, sFor, forD, sWhile, sComp, compL, iL, iT, iR1, iR2, iEn, enumF, asL, asT, rng, RD.inR, sApp, sSetIx, frz, addO, subO, mulO, modO, fdivO, negO, ixO, lenO, tupO, lstO, intO, eqO, neO, dep, depL, eqD, eqL, ltO, leO, gtO, geO, isO, isnO, catL, dIn, dGet, sDict, sSetM, sDnew, sDput, allO, anyO, isiO, mulT, iS, asS, slD, slF, cutD, Option.bind_some, Option.bind_none, Option.map_some, Option.map_none, List.getElem?_cons_zero, List.getElem?_cons_succ, List.getElem?_nil, List.set_cons_zero, List.set_cons_succ, List.length_cons, List.length_nil, List.map_cons, List.map_nil, List.cons_append, List.nil_append, List.append_nil, List.replicate_succ, List.replicate_zero, Nat.reduceAdd, Nat.reduceSub, Nat.reduceLeDiff, Nat.reduceLT, if_true, if_false, ite_true, ite_false, true_and, and_true, Bool.false_eq_true, decide_true, decide_false, Bool.not_true, Bool.not_false, List.range_zero, Int.toNat_zero, List.length_map, List.length_append, List.length_replicate, Nat.zero_add, Int.zero_add, reduceIte, reduceCtorEq, Int.reduceLT, Int.reduceLE, Int.reducePow, Int.reduceNeg, Int.reduceMul, Int.reduceAdd, Int.reduceSub, Int.reduceToNat, true_or, or_true, and_self, or_self, Bool.and_self, Bool.true_and, Bool.and_true, Bool.true_or, Bool.or_true, Bool.false_and, Bool.false_or, Nat.reduceMul, Nat.reducePow, Int.reduceEq, Nat.reduceEqDiff, Int.natCast_zero, Int.cast_ofNat_Int, Int.ofNat_eq_natCast, isiB, tyD, choiceB]
    | [_], _ => simp (config := { decide := true }) only [m_is_choice, F_is_choice, runD, sRet, sq, sIf, bB, b1, b2, b3, b1F, b2F, b3S, vget, rget, gL, gM, vAnd, vOr, vNot, bAnd, bOr, bNot, bTru, truD, asB, asI, oI, aCons, sSet, sSetL, sAsg, gN, gNl, gCs, gT, sFor, forD, sWhile, sComp, compL, iL, iT, iR1, iR2, iEn, enumF, asL, asT, rng, RD.inR, sApp, sSetIx, frz, addO, subO, mulO, modO, fdivO, negO, ixO, lenO, tupO, lstO, intO, eqO, neO, dep, depL, eqD, eqL, ltO, leO, gtO, geO, isO, isnO, catL, dIn, dGet, sDict, sSetM, sDnew, sDput, allO, anyO, isiO, mulT, iS, asS, slD, slF, cutD, Option.bind_some, Option.bind_none, Option.map_some, Option.map_none, List.getElem?_cons_zero, List.getElem?_cons_succ, List.getElem?_nil, List.set_cons_zero, List.set_cons_succ, List.length_cons, List.length_nil, List.map_cons, List.map_nil, List.cons_append, List.nil_append, List.append_nil, List.replicate_succ, List.replicate_zero, Nat.reduceAdd, Nat.reduceSub, Nat.reduceLeDiff, Nat.reduceLT, if_true, if_false, ite_true, ite_false, true_and, and_true, Bool.false_eq_true, decide_true, decide_false, Bool.not_true, Bool.not_false, List.range_zero, Int.toNat_zero, List.length_map, List.length_append, List.length_replicate, Nat.zero_add, Int.zero_add, reduceIte, reduceCtorEq, Int.reduceLT, Int.reduceLE, Int.reducePow, Int.reduceNeg, Int.reduceMul, Int.reduceAdd, Int.reduceSub, Int.reduceToNat, true_or, or_true, and_self, or_self, Bool.and_self, Bool.true_and, Bool.and_true, Bool.true_or, Bool.or_true, Bool.false_and, Bool.false_or, Nat.reduceMul, Nat.reducePow, Int.reduceEq, Nat.reduceEqDiff, Int.natCast_zero, Int.cast_ofNat_Int, Int.ofNat_eq_natCast, isiB, tyD, choiceB, Int.reduceBEq]
    | a :: b :: c :: l, _ =>
      have e : (((a :: b :: c :: l).length : Int) == 2) = false := by simp; omega
      have e' : (((l.length + 1 + 1 + 1 : Nat) : Int) == 2) = false := by simpa using e
      simp (config := { decide := true }) only [m_is_choice, F_is_choice, runD, sRet, sq, sIf, bB, b1, b2, b3, b1F, b2F, b3S, vget, rget, gL, gM, vAnd, vOr, vNot, bAnd, bOr, bNot, bTru, truD, asB, asI, oI, aCons, sSet, sSetL, sAsg, gN, gNl, gCs, gT, sFor, forD, sWhile, sComp, compL, iL, iT, iR1, iR2, iEn, enumF, asL, asT, rng, RD.inR, sApp, sSetIx, frz, addO, subO, mulO, modO, fdivO, negO, ixO, lenO, tupO, lstO, intO, eqO, neO, dep, depL, eqD, eqL, ltO, leO, gtO, geO, isO, isnO, catL, dIn, dGet, sDict, sSetM, sDnew, sDput, allO, anyO, isiO, mulT, iS, asS, slD, slF, cutD, Option.bind_some, Option.bind_none, Option.map_some, Option.map_none, List.getElem?_cons_zero, List.getElem?_cons_succ, List.getElem?_nil, List.set_cons_zero, List.set_cons_succ, List.length_cons, List.length_nil, List.map_cons, List.map_nil, List.cons_append, List.nil_append, List.append_nil, List.replicate_succ, List.replicate_zero, Nat.reduceAdd, Nat.reduceSub, Nat.reduceLeDiff, Nat.reduceLT, if_true, if_false, ite_true, ite_false, true_and, and_true, Bool.false_eq_true, decide_true, decide_false, Bool.not_true, Bool.not_false, List.range_zero, Int.toNat_zero, List.length_map, List.length_append, List.length_replicate, Nat.zero_add, Int.zero_add, reduceIte, reduceCtorEq, Int.reduceLT, Int.reduceLE, Int.reducePow, Int.reduceNeg, Int.reduceMul, Int.reduceAdd, Int.reduceSub, Int.reduceToNat, true_or, or_true, and_self, or_self, Bool.and_self, Bool.true_and, Bool.and_true, Bool.true_or, Bool.or_true, Bool.false_and, Bool.false_or, Nat.reduceMul, Nat.reducePow, Int.reduceEq, Nat.reduceEqDiff, Int.natCast_zero, Int.cast_ofNat_Int, Int.ofNat_eq_natCast, isiB, tyD, choiceB, e']
  | _ => simp (config := { decide := true }) only [m_is_choice, F_is_choice, runD, sRet, sq, sIf, bB, b1, b2, b3, b1F, b2F, b3S, vget, rget, gL, gM, vAnd, vOr, vNot, bAnd, bOr, bNot, bTru, truD, asB, asI, oI, aCons, sSet, sSetL, sAsg, gN, gNl, gCs, gT, sFor, forD, sWhile, sComp, compL, iL, iT, iR1, iR2, iEn, enumF, asL, asT, rng, RD.inR, sApp, sSetIx, frz, addO, subO, mulO, modO, fdivO, negO, ixO, lenO, tupO, lstO, intO, eqO, neO, dep, depL, eqD, eqL, ltO, leO, gtO, geO, isO, isnO, catL, dIn, dGet, sDict, sSetM, sDnew, sDput, allO, anyO, isiO, mulT, iS, asS, slD, slF, cutD, Option.bind_some, Option.bind_none, Option.map_some, Option.map_none, List.getElem?_cons_zero, List.getElem?_cons_succ, List.getElem?_nil, List.set_cons_zero, List.set_cons_succ, List.length_cons, List.length_nil, List.map_cons, List.map_nil, List.cons_append, List.nil_append, List.append_nil, List.replicate_succ, List.replicate_zero, Nat.reduceAdd, Nat.reduceSub, Nat.reduceLeDiff, Nat.reduceLT, if_true, if_false, ite_true, ite_false, true_and, and_true, Bool.false_eq_true, decide_true, decide_false, Bool.not_true, Bool.not_false, List.range_zero, Int.toNat_zero, List.length_map, List.length_append, List.length_replicate, Nat.zero_add, Int.zero_add, reduceIte, reduceCtorEq, Int.reduceLT, Int.reduceLE, Int.reducePow, Int.reduceNeg, Int.reduceMul, Int.reduceAdd, Int.reduceSub, Int.reduceToNat, true_or, or_true, and_self, or_self, Bool.and_self, Bool.true_and, Bool.and_true, Bool.true_or, Bool.or_true, Bool.false_and, Bool.false_or, Nat.reduceMul, Nat.reducePow, Int.reduceEq, Nat.reduceEqDiff, Int.natCast_zero, Int.cast_ofNat_Int, Int.ofNat_eq_natCast, isiB, tyD, choiceB]
/-- the words rise -/
def ltB (a b : D) : Bool := match a, b with
  | .tup (.str x :: _), .tup (.str y :: _) => ltS x y
  | _, _ => false
def riseB : List D → Bool
  | [] => true
  | [_] => true
  | a :: b :: l => ltB a b && riseB (b :: l)
def choicesB (d : D) (n : Int) : Bool := match d with
  | .tup xs => decide (1 ≤ xs.length) && decide (xs.length ≤ 3) && xs.all (choiceB · n) && riseB xs
  | _ => false
def szCs (d : D) : Prop := ∀ xs, d = .tup xs → ∀ e ∈ xs, szC e
theorem choice_shape {d : D} {n : Int} (h : choiceB d n = true) : ∃ x b, d = .tup [.str x, b] := by
  unfold choiceB at h
  split at h
  · rename_i a b
    cases a with
    | str x => exact ⟨x, b, rfl⟩
    | _ => simp [wordB] at h
  · cases h
theorem rise_1 (n : Int) (a : D) : (sRet (b1 (fun ρ => ((sComp 1 (iR2 (aCons (fun _ => some (D.int 1)) (aCons (b1 (fun ρ => rget ρ 0) lenO) (fun _ => some [])))) (gN 2) (fun _ => some true) (b2 (b2 (b2 (fun ρ => rget ρ 0) (b2 (fun ρ => rget ρ 2) (fun _ => some (D.int 1)) subO) ixO) (fun _ => some (D.int 0)) ixO) (b2 (b2 (fun ρ => rget ρ 0) (fun ρ => rget ρ 2) ixO) (fun _ => some (D.int 0)) ixO) ltO)) ρ).map D.lst) allO)) [.v (.tup [a]), .v (.int n)] = some (.rt (.bl (riseB [a]))) := by
  simp (config := { decide := true }) only [runD, sRet, sq, sIf, bB, b1, b2, b3, b1F, b2F, b3S, vget, rget, gL, gM, vAnd, vOr, vNot, bAnd, bOr, bNot, bTru, truD, asB, asI, oI, aCons, sSet, sSetL, sAsg, gN, gNl, gCs, gT, sFor, forD, sWhile, sComp, compL, iL, iT, iR1, iR2, iEn, enumF, asL, asT, rng, RD.inR, sApp, sSetIx, frz, addO, subO, mulO, modO, fdivO, negO, ixO, lenO, tupO, lstO, intO, eqO, neO, dep, depL, eqD, eqL, ltO, leO, gtO, geO, isO, isnO, catL, dIn, dGet, sDict, sSetM, sDnew, sDput, allO, anyO, isiO, mulT, iS, asS, slD, slF, cutD, Option.bind_some, Option.bind_none, Option.map_some, Option.map_none, List.getElem?_cons_zero, List.getElem?_cons_succ, List.getElem?_nil, List.set_cons_zero, List.set_cons_succ, List.length_cons, List.length_nil, List.map_cons, List.map_nil, List.cons_append, List.nil_append, List.append_nil, List.replicate_succ, List.replicate_zero, Nat.reduceAdd, Nat.reduceSub, Nat.reduceLeDiff, Nat.reduceLT, if_true, if_false, ite_true, ite_false, true_and, and_true, Bool.false_eq_true, decide_true, decide_false, Bool.not_true, Bool.not_false, List.range_zero, Int.toNat_zero, List.length_map, List.length_append, List.length_replicate, Nat.zero_add, Int.zero_add, reduceIte, reduceCtorEq, Int.reduceLT, Int.reduceLE, Int.reducePow, Int.reduceNeg, Int.reduceMul, Int.reduceAdd, Int.reduceSub, Int.reduceToNat, true_or, or_true, and_self, or_self, Bool.and_self, Bool.true_and, Bool.and_true, Bool.true_or, Bool.or_true, Bool.false_and, Bool.false_or, Nat.reduceMul, Nat.reducePow, Int.reduceEq, Nat.reduceEqDiff, Int.natCast_zero, Int.cast_ofNat_Int, Int.ofNat_eq_natCast, riseB, ltB, ltS, Int.natCast_one, Int.toNat_one, List.range_one, r2, at0, at1, at2, bools?, List.all_cons, List.all_nil, id, Int.reduceToNat]
theorem rise_2 (n : Int) (x y : Str) (b b' : D) : (sRet (b1 (fun ρ => ((sComp 1 (iR2 (aCons (fun _ => some (D.int 1)) (aCons (b1 (fun ρ => rget ρ 0) lenO) (fun _ => some [])))) (gN 2) (fun _ => some true) (b2 (b2 (b2 (fun ρ => rget ρ 0) (b2 (fun ρ => rget ρ 2) (fun _ => some (D.int 1)) subO) ixO) (fun _ => some (D.int 0)) ixO) (b2 (b2 (fun ρ => rget ρ 0) (fun ρ => rget ρ 2) ixO) (fun _ => some (D.int 0)) ixO) ltO)) ρ).map D.lst) allO)) [.v (.tup [.tup [.str x, b], .tup [.str y, b']]), .v (.int n)] = some (.rt (.bl (riseB [.tup [.str x, b], .tup [.str y, b']]))) := by
  simp (config := { decide := true }) only [runD, sRet, sq, sIf, bB, b1, b2, b3, b1F, b2F, b3S, vget, rget, gL, gM, vAnd, vOr, vNot, bAnd, bOr, bNot, bTru, truD, asB, asI, oI, aCons, sSet, sSetL, sAsg, gN, gNl, gCs, gT, sFor, forD, sWhile, sComp, compL, iL, iT, iR1, iR2, iEn, enumF, asL, asT, rng, RD.inR, sApp, sSetIx, frz, addO, subO, mulO, modO, fdivO, negO, ixO, lenO, tupO, lstO, intO, eqO, neO, dep, depL, eqD, eqL, ltO, leO, gtO, geO, isO, isnO, catL, dIn, dGet, sDict, sSetM, sDnew, sDput, allO, anyO, isiO, mulT, iS, asS, slD, slF, cutD, Option.bind_some, Option.bind_none, Option.map_some, Option.map_none, List.getElem?_cons_zero, List.getElem?_cons_succ, List.getElem?_nil, List.set_cons_zero, List.set_cons_succ, List.length_cons, List.length_nil, List.map_cons, List.map_nil, List.cons_append, List.nil_append, List.append_nil, List.replicate_succ, List.replicate_zero, Nat.reduceAdd, Nat.reduceSub, Nat.reduceLeDiff, Nat.reduceLT, if_true, if_false, ite_true, ite_false, true_and, and_true, Bool.false_eq_true, decide_true, decide_false, Bool.not_true, Bool.not_false, List.range_zero, Int.toNat_zero, List.length_map, List.length_append, List.length_replicate, Nat.zero_add, Int.zero_add, reduceIte, reduceCtorEq, Int.reduceLT, Int.reduceLE, Int.reducePow, Int.reduceNeg, Int.reduceMul, Int.reduceAdd, Int.reduceSub, Int.reduceToNat, true_or, or_true, and_self, or_self, Bool.and_self, Bool.true_and, Bool.and_true, Bool.true_or, Bool.or_true, Bool.false_and, Bool.false_or, Nat.reduceMul, Nat.reducePow, Int.reduceEq, Nat.reduceEqDiff, Int.natCast_zero, Int.cast_ofNat_Int, Int.ofNat_eq_natCast, riseB, ltB, ltS, Int.natCast_one, Int.toNat_one, List.range_one, r2, at0, at1, at2, bools?, List.all_cons, List.all_nil, id, Int.reduceToNat]
theorem rise_3 (n : Int) (x y z : Str) (b b' b'' : D) : (sRet (b1 (fun ρ => ((sComp 1 (iR2 (aCons (fun _ => some (D.int 1)) (aCons (b1 (fun ρ => rget ρ 0) lenO) (fun _ => some [])))) (gN 2) (fun _ => some true) (b2 (b2 (b2 (fun ρ => rget ρ 0) (b2 (fun ρ => rget ρ 2) (fun _ => some (D.int 1)) subO) ixO) (fun _ => some (D.int 0)) ixO) (b2 (b2 (fun ρ => rget ρ 0) (fun ρ => rget ρ 2) ixO) (fun _ => some (D.int 0)) ixO) ltO)) ρ).map D.lst) allO)) [.v (.tup [.tup [.str x, b], .tup [.str y, b'], .tup [.str z, b'']]), .v (.int n)] = some (.rt (.bl (riseB [.tup [.str x, b], .tup [.str y, b'], .tup [.str z, b'']]))) := by
  simp (config := { decide := true }) only [runD, sRet, sq, sIf, bB, b1, b2, b3, b1F, b2F, b3S, vget, rget, gL, gM, vAnd, vOr, vNot, bAnd, bOr, bNot, bTru, truD, asB, asI, oI, aCons, sSet, sSetL, sAsg, gN, gNl, gCs, gT, sFor, forD, sWhile, sComp, compL, iL, iT, iR1, iR2, iEn, enumF, asL, asT, rng, RD.inR, sApp, sSetIx, frz, addO, subO, mulO, modO, fdivO, negO, ixO, lenO, tupO, lstO, intO, eqO, neO, dep, depL, eqD, eqL, ltO, leO, gtO, geO, isO, isnO, catL, dIn, dGet, sDict, sSetM, sDnew, sDput, allO, anyO, isiO, mulT, iS, asS, slD, slF, cutD, Option.bind_some, Option.bind_none, Option.map_some, Option.map_none, List.getElem?_cons_zero, List.getElem?_cons_succ, List.getElem?_nil, List.set_cons_zero, List.set_cons_succ, List.length_cons, List.length_nil, List.map_cons, List.map_nil, List.cons_append, List.nil_append, List.append_nil, List.replicate_succ, List.replicate_zero, Nat.reduceAdd, Nat.reduceSub, Nat.reduceLeDiff, Nat.reduceLT, if_true, if_false, ite_true, ite_false, true_and, and_true, Bool.false_eq_true, decide_true, decide_false, Bool.not_true, Bool.not_false, List.range_zero, Int.toNat_zero, List.length_map, List.length_append, List.length_replicate, Nat.zero_add, Int.zero_add, reduceIte, reduceCtorEq, Int.reduceLT, Int.reduceLE, Int.reducePow, Int.reduceNeg, Int.reduceMul, Int.reduceAdd, Int.reduceSub, Int.reduceToNat, true_or, or_true, and_self, or_self, Bool.and_self, Bool.true_and, Bool.and_true, Bool.true_or, Bool.or_true, Bool.false_and, Bool.false_or, Nat.reduceMul, Nat.reducePow, Int.reduceEq, Nat.reduceEqDiff, Int.natCast_zero, Int.cast_ofNat_Int, Int.ofNat_eq_natCast, riseB, ltB, ltS, Int.natCast_one, Int.toNat_one, List.range_one, r2, at0, at1, at2, bools?, List.all_cons, List.all_nil, id, Int.reduceToNat]
theorem rise_is {xs : List D} (n : Int) (h1 : 1 ≤ xs.length) (h2 : xs.length ≤ 3) (shp : ∀ e ∈ xs, ∃ x b, e = .tup [.str x, b]) : (sRet (b1 (fun ρ => ((sComp 1 (iR2 (aCons (fun _ => some (D.int 1)) (aCons (b1 (fun ρ => rget ρ 0) lenO) (fun _ => some [])))) (gN 2) (fun _ => some true) (b2 (b2 (b2 (fun ρ => rget ρ 0) (b2 (fun ρ => rget ρ 2) (fun _ => some (D.int 1)) subO) ixO) (fun _ => some (D.int 0)) ixO) (b2 (b2 (fun ρ => rget ρ 0) (fun ρ => rget ρ 2) ixO) (fun _ => some (D.int 0)) ixO) ltO)) ρ).map D.lst) allO)) [.v (.tup xs), .v (.int n)] = some (.rt (.bl (riseB xs))) := by
  match xs, h1, h2, shp with
  | [a], _, _, _ => exact rise_1 n a
  | [a, b], _, _, shp =>
    obtain ⟨x, b1', rfl⟩ := shp a (by simp)
    obtain ⟨y, b2', rfl⟩ := shp b (by simp)
    exact rise_2 n x y b1' b2'
  | [a, b, c], _, _, shp =>
    obtain ⟨x, b1', rfl⟩ := shp a (by simp)
    obtain ⟨y, b2', rfl⟩ := shp b (by simp)
    obtain ⟨z, b3', rfl⟩ := shp c (by simp)
    exact rise_3 n x y z b1' b2' b3'
theorem choices_core {xs : List D} {n : Int} {el : Rho → Option D} {rest : Rho → Option Out} {bs : List Bool} {r : D} (i1 : (1 : Int) ≤ (xs.length : Int)) (i2 : (xs.length : Int) ≤ 3) (hl : xs.length ≤ 1000000)
    (c : compL (gN 2) (fun _ => some true) el xs [.v (.tup xs), .v (.int n), .un] = some (bs.map D.bl)) (ha : bs.all id = true) (fin : rest [.v (.tup xs), .v (.int n)] = some (.rt r)) :
    (sq (sIf (bOr (bNot (bTru (b1 (fun ρ => rget ρ 0) (isiO "tuple")))) (bNot (bB (b3 (fun _ => some (D.int 1)) (b1 (fun ρ => rget ρ 0) lenO) (fun _ => some (D.int 3)) leO leO)))) (sRet (fun _ => some (D.bl false))) (fun ρ => some (Out.nx ρ))) (sq (sIf (bNot (bTru (b1 (fun ρ => ((sComp 1 (iT (fun ρ => vget ρ 0)) (gN 2) (fun _ => some true) el) ρ).map D.lst) allO))) (sRet (fun _ => some (D.bl false))) (fun ρ => some (Out.nx ρ))) rest)) [.v (.tup xs), .v (.int n)] = some (.rt r) := by
  have a1 : (sIf (bOr (bNot (bTru (b1 (fun ρ => rget ρ 0) (isiO "tuple")))) (bNot (bB (b3 (fun _ => some (D.int 1)) (b1 (fun ρ => rget ρ 0) lenO) (fun _ => some (D.int 3)) leO leO)))) (sRet (fun _ => some (D.bl false))) (fun ρ => some (Out.nx ρ))) [.v (.tup xs), .v (.int n)] = some (.nx [.v (.tup xs), .v (.int n)]) := by
    simp (config := { decide := true }) only [runD, sRet, sq, sIf, bB, b1, b2, b3, b1F, b2F, b3S, vget, rget, gL, gM, vAnd, vOr, vNot, bAnd, bOr, bNot, bTru, truD, asB, asI, oI, aCons, sSet, sSetL, sAsg, gN, gNl, gCs, gT, sFor, forD, sWhile, sComp, iL, iT, iR1, iR2, iEn, enumF, asL, asT, rng, RD.inR, sApp, sSetIx, frz, addO, subO, mulO, modO, fdivO, negO, ixO, atI, ixN, lenO, tupO, lstO, intO, eqO, neO, dep, depL, eqD, eqL, ltO, leO, gtO, geO, isO, isnO, catL, dIn, dGet, sDict, sSetM, sDnew, sDput, allO, anyO, isiO, mulT, iS, asS, slD, slF, cutD, Option.bind_some, Option.bind_none, Option.map_some, Option.map_none, List.getElem?_cons_zero, List.getElem?_cons_succ, List.getElem?_nil, List.set_cons_zero, List.set_cons_succ, List.length_cons, List.length_nil, List.map_cons, List.map_nil, List.cons_append, List.nil_append, List.append_nil, List.replicate_succ, List.replicate_zero, Nat.reduceAdd, Nat.reduceSub, Nat.reduceLeDiff, Nat.reduceLT, if_true, if_false, ite_true, ite_false, true_and, and_true, Bool.false_eq_true, decide_true, decide_false, Bool.not_true, Bool.not_false, List.range_zero, Int.toNat_zero, List.length_map, List.length_append, List.length_replicate, Nat.zero_add, Int.zero_add, reduceIte, reduceCtorEq, Int.reduceLT, Int.reduceLE, Int.reducePow, Int.reduceNeg, Int.reduceMul, Int.reduceAdd, Int.reduceSub, Int.reduceToNat, true_or, or_true, and_self, or_self, Bool.and_self, Bool.true_and, Bool.and_true, Bool.true_or, Bool.or_true, Bool.false_and, Bool.false_or, Nat.reduceMul, Nat.reducePow, Int.reduceEq, Nat.reduceEqDiff, Int.natCast_zero, Int.cast_ofNat_Int, Int.ofNat_eq_natCast, isiB, tyD, i1, i2]
  have a2 : (sIf (bNot (bTru (b1 (fun ρ => ((sComp 1 (iT (fun ρ => vget ρ 0)) (gN 2) (fun _ => some true) el) ρ).map D.lst) allO))) (sRet (fun _ => some (D.bl false))) (fun ρ => some (Out.nx ρ))) [.v (.tup xs), .v (.int n)] = some (.nx [.v (.tup xs), .v (.int n)]) := by
    simp (config := { decide := true }) only [runD, sRet, sq, sIf, bB, b1, b2, b3, b1F, b2F, b3S, vget, rget, gL, gM, vAnd, vOr, vNot, bAnd, bOr, bNot, bTru, truD, asB, asI, oI, aCons, sSet, sSetL, sAsg, gN, gNl, gCs, gT, sFor, forD, sWhile, sComp, iL, iT, iR1, iR2, iEn, enumF, asL, asT, rng, RD.inR, sApp, sSetIx, frz, addO, subO, mulO, modO, fdivO, negO, ixO, atI, ixN, lenO, tupO, lstO, intO, eqO, neO, dep, depL, eqD, eqL, ltO, leO, gtO, geO, isO, isnO, catL, dIn, dGet, sDict, sSetM, sDnew, sDput, allO, anyO, isiO, mulT, iS, asS, slD, slF, cutD, Option.bind_some, Option.bind_none, Option.map_some, Option.map_none, List.getElem?_cons_zero, List.getElem?_cons_succ, List.getElem?_nil, List.set_cons_zero, List.set_cons_succ, List.length_cons, List.length_nil, List.map_cons, List.map_nil, List.cons_append, List.nil_append, List.append_nil, List.replicate_succ, List.replicate_zero, Nat.reduceAdd, Nat.reduceSub, Nat.reduceLeDiff, Nat.reduceLT, if_true, if_false, ite_true, ite_false, true_and, and_true, Bool.false_eq_true, decide_true, decide_false, Bool.not_true, Bool.not_false, List.range_zero, Int.toNat_zero, List.length_map, List.length_append, List.length_replicate, Nat.zero_add, Int.zero_add, reduceIte, reduceCtorEq, Int.reduceLT, Int.reduceLE, Int.reducePow, Int.reduceNeg, Int.reduceMul, Int.reduceAdd, Int.reduceSub, Int.reduceToNat, true_or, or_true, and_self, or_self, Bool.and_self, Bool.true_and, Bool.and_true, Bool.true_or, Bool.or_true, Bool.false_and, Bool.false_or, Nat.reduceMul, Nat.reducePow, Int.reduceEq, Nat.reduceEqDiff, Int.natCast_zero, Int.cast_ofNat_Int, Int.ofNat_eq_natCast, hl, c, bools_map, ha]
  unfold sq
  rw [a1]
  show ((sIf _ _ _ _).bind _) = _
  rw [a2]
  exact fin
theorem m_choices_is (d : D) (n : Int) (h : szCs d) : m_are_choices [d, .int n] = some (.bl (choicesB d n)) := by
  cases d with
  | tup xs =>
    have hc := h xs rfl
    by_cases h1 : 1 ≤ xs.length
    · by_cases h2 : xs.length ≤ 3
      · have i1 : (1 : Int) ≤ (xs.length : Int) := by omega
        have i2 : (xs.length : Int) ≤ 3 := by omega
        have hl : xs.length ≤ 1000000 := by omega
        have c := compL_filter (g := gN 2) (p := fun _ => some true) (f := (fun ρ => ((aCons (fun ρ => vget ρ 2) (aCons (fun ρ => vget ρ 1) (fun _ => some []))) ρ).bind m_is_choice)) (emb := id) (ρ := [.v (.tup xs), .v (.int n), .un]) (fun _ => true) (fun e => D.bl (choiceB e n)) xs fun e he => ⟨_, rfl, rfl, fun _ => by
          simp (config := { decide := true }) only [runD, sRet, sq, sIf, bB, b1, b2, b3, b1F, b2F, b3S, vget, rget, gL, gM, vAnd, vOr, vNot, bAnd, bOr, bNot, bTru, truD, asB, asI, oI, aCons, sSet, sSetL, sAsg, gN, gNl, gCs, gT, sFor, forD, sWhile, sComp, iL, iT, iR1, iR2, iEn, enumF, asL, asT, rng, RD.inR, sApp, sSetIx, frz, addO, subO, mulO, modO, fdivO, negO, ixO, atI, ixN, lenO, tupO, lstO, intO, eqO, neO, dep, depL, eqD, eqL, ltO, leO, gtO, geO, isO, isnO, catL, dIn, dGet, sDict, sSetM, sDnew, sDput, allO, anyO, isiO, mulT, iS, asS, slD, slF, cutD, Option.bind_some, Option.bind_none, Option.map_some, Option.map_none, List.getElem?_cons_zero, List.getElem?_cons_succ, List.getElem?_nil, List.set_cons_zero, List.set_cons_succ, List.length_cons, List.length_nil, List.map_cons, List.map_nil, List.cons_append, List.nil_append, List.append_nil, List.replicate_succ, List.replicate_zero, Nat.reduceAdd, Nat.reduceSub, Nat.reduceLeDiff, Nat.reduceLT, if_true, if_false, ite_true, ite_false, true_and, and_true, Bool.false_eq_true, decide_true, decide_false, Bool.not_true, Bool.not_false, List.range_zero, Int.toNat_zero, List.length_map, List.length_append, List.length_replicate, Nat.zero_add, Int.zero_add, reduceIte, reduceCtorEq, Int.reduceLT, Int.reduceLE, Int.reducePow, Int.reduceNeg, Int.reduceMul, Int.reduceAdd, Int.reduceSub, Int.reduceToNat, true_or, or_true, and_self, or_self, Bool.and_self, Bool.true_and, Bool.and_true, Bool.true_or, Bool.or_true, Bool.false_and, Bool.false_or, Nat.reduceMul, Nat.reducePow, Int.reduceEq, Nat.reduceEqDiff, Int.natCast_zero, Int.cast_ofNat_Int, Int.ofNat_eq_natCast, id, m_choice_is e n (hc e he)]⟩
        rw [List.filter_eq_self.mpr (by simp), List.map_id] at c
        have e : (xs.map fun c => D.bl (choiceB c n)) = (xs.map fun c => choiceB c n).map D.bl := by rw [List.map_map]; rfl
        rw [e] at c
        have all_id : (xs.map fun c => choiceB c n).all id = xs.all (choiceB · n) := by rw [List.all_map]; rfl
        cases qa : xs.all (choiceB · n) with
        | false =>
          rw [qa] at all_id
          unfold m_are_choices F_are_choices
          generalize (fun ρ => ((aCons (fun ρ => vget ρ 2) (aCons (fun ρ => vget ρ 1) (fun _ => some []))) ρ).bind m_is_choice) = el at c ⊢
          simp (config := { decide := true }) only [runD, sRet, sq, sIf, bB, b1, b2, b3, b1F, b2F, b3S, vget, rget, gL, gM, vAnd, vOr, vNot, bAnd, bOr, bNot, bTru, truD, asB, asI, oI, aCons, sSet, sSetL, sAsg, gN, gNl, gCs, gT, sFor, forD, sWhile, sComp, iL, iT, iR1, iR2, iEn, enumF, asL, asT, rng, RD.inR, sApp, sSetIx, frz, addO, subO, mulO, modO, fdivO, negO, ixO, atI, ixN, lenO, tupO, lstO, intO, eqO, neO, dep, depL, eqD, eqL, ltO, leO, gtO, geO, isO, isnO, catL, dIn, dGet, sDict, sSetM, sDnew, sDput, allO, anyO, isiO, mulT, iS, asS, slD, slF, cutD, Option.bind_some, Option.bind_none, Option.map_some, Option.map_none, List.getElem?_cons_zero, List.getElem?_cons_succ, List.getElem?_nil, List.set_cons_zero, List.set_cons_succ, List.length_cons, List.length_nil, List.map_cons, List.map_nil, List.cons_append, List.nil_append, List.append_nil, List.replicate_succ, List.replicate_zero, Nat.reduceAdd, Nat.reduceSub, Nat.reduceLeDiff, Nat.reduceLT, if_true, if_false, ite_true, ite_false, true_and, and_true, Bool.false_eq_true, decide_true, decide_false, Bool.not_true, Bool.not_false, List.range_zero, Int.toNat_zero, List.length_map, List.length_append, List.length_replicate, Nat.zero_add, Int.zero_add, reduceIte, reduceCtorEq, Int.reduceLT, Int.reduceLE, Int.reducePow, Int.reduceNeg, Int.reduceMul, Int.reduceAdd, Int.reduceSub, Int.reduceToNat, true_or, or_true, and_self, or_self, Bool.and_self, Bool.true_and, Bool.and_true, Bool.true_or, Bool.or_true, Bool.false_and, Bool.false_or, Nat.reduceMul, Nat.reducePow, Int.reduceEq, Nat.reduceEqDiff, Int.natCast_zero, Int.cast_ofNat_Int, Int.ofNat_eq_natCast, isiB, tyD, i1, i2, hl, c, bools_map, all_id, choicesB, h1, h2, qa]
        | true =>
          rw [qa] at all_id
          have shp : ∀ e ∈ xs, ∃ x b, e = .tup [.str x, b] := fun e he => choice_shape (n := n) (List.all_eq_true.mp qa e he)
          have fin := rise_is n h1 h2 shp
          have cb : choicesB (.tup xs) n = riseB xs := by simp [choicesB, h1, h2, qa]
          rw [cb]
          have z := choices_core i1 i2 hl c all_id fin
          show (F_are_choices [.v (.tup xs), .v (.int n)]).bind _ = _
          unfold F_are_choices
          rw [z]
          rfl
      · have i2 : ¬ (xs.length : Int) ≤ 3 := by omega
        have i1 : (1 : Int) ≤ (xs.length : Int) := by omega
        simp (config := { decide := true }) only [m_are_choices, F_are_choices, runD, sRet, sq, sIf, bB, b1, b2, b3, b1F, b2F, b3S, vget, rget, gL, gM, vAnd, vOr, vNot, bAnd, bOr, bNot, bTru, truD, asB, asI, oI, aCons, sSet, sSetL, sAsg, gN, gNl, gCs, gT, sFor, forD, sWhile, sComp, iL, iT, iR1, iR2, iEn, enumF, asL, asT, rng, RD.inR, sApp, sSetIx, frz, addO, subO, mulO, modO, fdivO, negO, ixO, atI, ixN, lenO, tupO, lstO, intO, eqO, neO, dep, depL, eqD, eqL, ltO, leO, gtO, geO, isO, isnO, catL, dIn, dGet, sDict, sSetM, sDnew, sDput, allO, anyO, isiO, mulT, iS, asS, slD, slF, cutD, Option.bind_some, Option.bind_none, Option.map_some, Option.map_none, List.getElem?_cons_zero, List.getElem?_cons_succ, List.getElem?_nil, List.set_cons_zero, List.set_cons_succ, List.length_cons, List.length_nil, List.map_cons, List.map_nil, List.cons_append, List.nil_append, List.append_nil, List.replicate_succ, List.replicate_zero, Nat.reduceAdd, Nat.reduceSub, Nat.reduceLeDiff, Nat.reduceLT, if_true, if_false, ite_true, ite_false, true_and, and_true, Bool.false_eq_true, decide_true, decide_false, Bool.not_true, Bool.not_false, List.range_zero, Int.toNat_zero, List.length_map, List.length_append, List.length_replicate, Nat.zero_add, Int.zero_add, reduceIte, reduceCtorEq, Int.reduceLT, Int.reduceLE, Int.reducePow, Int.reduceNeg, Int.reduceMul, Int.reduceAdd, Int.reduceSub, Int.reduceToNat, true_or, or_true, and_self, or_self, Bool.and_self, Bool.true_and, Bool.and_true, Bool.true_or, Bool.or_true, Bool.false_and, Bool.false_or, Nat.reduceMul, Nat.reducePow, Int.reduceEq, Nat.reduceEqDiff, Int.natCast_zero, Int.cast_ofNat_Int, Int.ofNat_eq_natCast, isiB, tyD, i1, i2, choicesB, h1, h2]
    · have i1 : ¬ (1 : Int) ≤ (xs.length : Int) := by omega
      simp (config := { decide := true }) only [m_are_choices, F_are_choices, runD, sRet, sq, sIf, bB, b1, b2, b3, b1F, b2F, b3S, vget, rget, gL, gM, vAnd, vOr, vNot, bAnd, bOr, bNot, bTru, truD, asB, asI, oI, aCons, sSet, sSetL, sAsg, gN, gNl, gCs, gT, sFor, forD, sWhile, sComp, iL, iT, iR1, iR2, iEn, enumF, asL, asT, rng, RD.inR, sApp, sSetIx, frz, addO, subO, mulO, modO, fdivO, negO, ixO, atI, ixN, lenO, tupO, lstO, intO, eqO, neO, dep, depL, eqD, eqL, ltO, leO, gtO, geO, isO, isnO, catL, dIn, dGet, sDict, sSetM, sDnew, sDput, allO, anyO, isiO, mulT, iS, asS, slD, slF, cutD, Option.bind_some, Option.bind_none, Option.map_some, Option.map_none, List.getElem?_cons_zero, List.getElem?_cons_succ, List.getElem?_nil, List.set_cons_zero, List.set_cons_succ, List.length_cons, List.length_nil, List.map_cons, List.map_nil, List.cons_append, List.nil_append, List.append_nil, List.replicate_succ, List.replicate_zero, Nat.reduceAdd, Nat.reduceSub, Nat.reduceLeDiff, Nat.reduceLT, if_true, if_false, ite_true, ite_false, true_and, and_true, Bool.false_eq_true, decide_true, decide_false, Bool.not_true, Bool.not_false, List.range_zero, Int.toNat_zero, List.length_map, List.length_append, List.length_replicate, Nat.zero_add, Int.zero_add, reduceIte, reduceCtorEq, Int.reduceLT, Int.reduceLE, Int.reducePow, Int.reduceNeg, Int.reduceMul, Int.reduceAdd, Int.reduceSub, Int.reduceToNat, true_or, or_true, and_self, or_self, Bool.and_self, Bool.true_and, Bool.and_true, Bool.true_or, Bool.or_true, Bool.false_and, Bool.false_or, Nat.reduceMul, Nat.reducePow, Int.reduceEq, Nat.reduceEqDiff, Int.natCast_zero, Int.cast_ofNat_Int, Int.ofNat_eq_natCast, isiB, tyD, i1, choicesB, h1]
  | _ => simp (config := { decide := true }) only [m_are_choices, F_are_choices, runD, sRet, sq, sIf, bB, b1, b2, b3, b1F, b2F, b3S, vget, rget, gL, gM, vAnd, vOr, vNot, bAnd, bOr, bNot, bTru, truD, asB, asI, oI, aCons, sSet, sSetL, sAsg, gN, gNl, gCs, gT, sFor, forD, sWhile, sComp, iL, iT, iR1, iR2, iEn, enumF, asL, asT, rng, RD.inR, sApp, sSetIx, frz, addO, subO, mulO, modO, fdivO, negO, ixO, atI, ixN, lenO, tupO, lstO, intO, eqO, neO, dep, depL, eqD, eqL, ltO, leO, gtO, geO, isO, isnO, catL, dIn, dGet, sDict, sSetM, sDnew, sDput, allO, anyO, isiO, mulT, iS, asS, slD, slF, cutD, Option.bind_some, Option.bind_none, Option.map_some, Option.map_none, List.getElem?_cons_zero, List.getElem?_cons_succ, List.getElem?_nil, List.set_cons_zero, List.set_cons_succ, List.length_cons, List.length_nil, List.map_cons, List.map_nil, List.cons_append, List.nil_append, List.append_nil, List.replicate_succ, List.replicate_zero, Nat.reduceAdd, Nat.reduceSub, Nat.reduceLeDiff, Nat.reduceLT, if_true, if_false, ite_true, ite_false, true_and, and_true, Bool.false_eq_true, decide_true, decide_false, Bool.not_true, Bool.not_false, List.range_zero, Int.toNat_zero, List.length_map, List.length_append, List.length_replicate, Nat.zero_add, Int.zero_add, reduceIte, reduceCtorEq, Int.reduceLT, Int.reduceLE, Int.reducePow, Int.reduceNeg, Int.reduceMul, Int.reduceAdd, Int.reduceSub, Int.reduceToNat, true_or, or_true, and_self, or_self, Bool.and_self, Bool.true_and, Bool.and_true, Bool.true_or, Bool.or_true, Bool.false_and, Bool.false_or, Nat.reduceMul, Nat.reducePow, Int.reduceEq, Nat.reduceEqDiff, Int.natCast_zero, Int.cast_ofNat_Int, Int.ofNat_eq_natCast, isiB, tyD, choicesB]
end LG

set_option Elab.async false
set_option linter.all false
set_option maxRecDepth 100000
set_option maxHeartbeats 4000000
namespace LG
open PySem L2 RD
mutual
theorem eqD_self : ∀ d : D, eqD d d = true
  | .non => by simp [eqD]
  | .bl _ => by simp [eqD]
  | .int _ => by simp [eqD]
  | .str _ => by simp [eqD]
  | .tup xs => by simp only [eqD]; exact eqL_self xs
  | .lst xs => by simp only [eqD]; exact eqL_self xs
theorem eqL_self : ∀ d : List D, eqL d d = true
  | [] => by simp [eqL]
  | x :: xs => by simp only [eqL, eqD_self x, eqL_self xs]; rfl
end
def endD : D := .tup [.str "end"]
def placeB (d : D) (m n : Int) : Bool := eqD d endD || (match d with
  | .tup [k, a, b, c] => eqD k (.str "tell") && belowB a m && belowB b m && !eqD a b && choicesB c n
  | _ => false)
def szP (d : D) : Prop := ∀ k a b c, d = .tup [k, a, b, c] → szCs c
theorem dep_end : dep endD = 1 := by simp [endD, dep, depL]
theorem eqO_end (d : D) : eqO d endD = some (.bl (eqD d endD)) := by
  unfold eqO; rw [if_pos (by rw [dep_end]; omega)]
theorem below_int {d : D} {m : Int} (h : belowB d m = true) : ∃ i, d = .int i := by
  cases d with
  | int i => exact ⟨i, rfl⟩
  | _ => simp [belowB] at h
theorem place_core {d : D} {m n : Int} (h : szP d) (hne : eqD d endD = false) : m_is_place [d, .int m, .int n] = some (.bl (placeB d m n)) := by
  have ee := eqO_end d
  rw [hne] at ee
  simp only [endD] at ee
  cases d with
  | tup xs =>
    match xs, h with
    | [k, a, b, c], h =>
      have hc := m_choices_is c n (h k a b c rfl)
      have nk : neO k (.str "tell") = some (.bl (!eqD k (.str "tell"))) := by unfold neO; rw [if_pos (by simp [dep])]
      unfold placeB
      rw [hne]
      simp only [Bool.false_or]
      cases qk : eqD k (.str "tell") with
      | false =>
        rw [qk] at nk
        simp (config := { decide := true }) only [m_is_place, F_is_place, runD, sRet, sq, sIf, bB, b1, b2, b3, b1F, b2F, b3S, vget, rget, gL, gM, vAnd, vOr, vNot, bAnd, bOr, bNot, bTru, truD, asB, asI, oI, aCons, sSet, sSetL, sAsg, gN, gNl, gCs, gT, sFor, forD, sWhile, sComp, compL, iL, iT, iR1, iR2, iEn, enumF, asL, asT, rng, RD.inR, sApp, sSetIx, frz, addO, subO, mulO, modO, fdivO, negO, ixO, lenO, tupO, lstO, intO, dep, depL, ltO, leO, gtO, geO, isO, isnO, catL, dIn, dGet, sDict, sSetM, sDnew, sDput, allO, anyO, isiO, mulT, iS, asS, slD, slF, cutD, Option.bind_some, Option.bind_none, Option.map_some, Option.map_none, List.getElem?_cons_zero, List.getElem?_cons_succ, List.getElem?_nil, List.set_cons_zero, List.set_cons_succ, List.length_cons, List.length_nil, List.map_cons, List.map_nil, List.cons_append, List.nil_append, List.append_nil, List.replicate_succ, List.replicate_zero, Nat.reduceAdd, Nat.reduceSub, Nat.reduceLeDiff, Nat.reduceLT, if_true, if_false, ite_true, ite_false, true_and, and_true, Bool.false_eq_true, decide_true, decide_false, Bool.not_true, Bool.not_false, List.range_zero, Int.toNat_zero, List.length_map, List.length_append, List.length_replicate, Nat.zero_add, Int.zero_add, reduceIte, reduceCtorEq, Int.reduceLT, Int.reduceLE, Int.reducePow, Int.reduceNeg, Int.reduceMul, Int.reduceAdd, Int.reduceSub, Int.reduceToNat, true_or, or_true, and_self, or_self, Bool.and_self, Bool.true_and, Bool.and_true, Bool.true_or, Bool.or_true, Bool.false_and, Bool.false_or, Nat.reduceMul, Nat.reducePow, Int.reduceEq, Nat.reduceEqDiff, Int.natCast_zero, Int.cast_ofNat_Int, Int.ofNat_eq_natCast, ee, isiB, tyD, show neO (.int 4) (.int 4) = some (.bl false) from rfl, at0, nk]
      | true =>
        rw [qk] at nk
        cases qa : belowB a m with
        | false => simp (config := { decide := true }) only [m_is_place, F_is_place, runD, sRet, sq, sIf, bB, b1, b2, b3, b1F, b2F, b3S, vget, rget, gL, gM, vAnd, vOr, vNot, bAnd, bOr, bNot, bTru, truD, asB, asI, oI, aCons, sSet, sSetL, sAsg, gN, gNl, gCs, gT, sFor, forD, sWhile, sComp, compL, iL, iT, iR1, iR2, iEn, enumF, asL, asT, rng, RD.inR, sApp, sSetIx, frz, addO, subO, mulO, modO, fdivO, negO, ixO, lenO, tupO, lstO, intO, dep, depL, ltO, leO, gtO, geO, isO, isnO, catL, dIn, dGet, sDict, sSetM, sDnew, sDput, allO, anyO, isiO, mulT, iS, asS, slD, slF, cutD, Option.bind_some, Option.bind_none, Option.map_some, Option.map_none, List.getElem?_cons_zero, List.getElem?_cons_succ, List.getElem?_nil, List.set_cons_zero, List.set_cons_succ, List.length_cons, List.length_nil, List.map_cons, List.map_nil, List.cons_append, List.nil_append, List.append_nil, List.replicate_succ, List.replicate_zero, Nat.reduceAdd, Nat.reduceSub, Nat.reduceLeDiff, Nat.reduceLT, if_true, if_false, ite_true, ite_false, true_and, and_true, Bool.false_eq_true, decide_true, decide_false, Bool.not_true, Bool.not_false, List.range_zero, Int.toNat_zero, List.length_map, List.length_append, List.length_replicate, Nat.zero_add, Int.zero_add, reduceIte, reduceCtorEq, Int.reduceLT, Int.reduceLE, Int.reducePow, Int.reduceNeg, Int.reduceMul, Int.reduceAdd, Int.reduceSub, Int.reduceToNat, true_or, or_true, and_self, or_self, Bool.and_self, Bool.true_and, Bool.and_true, Bool.true_or, Bool.or_true, Bool.false_and, Bool.false_or, Nat.reduceMul, Nat.reducePow, Int.reduceEq, Nat.reduceEqDiff, Int.natCast_zero, Int.cast_ofNat_Int, Int.ofNat_eq_natCast, ee, isiB, tyD, show neO (.int 4) (.int 4) = some (.bl false) from rfl, at0, at1, at2, nk, m_below, qa]
        | true =>
          cases qb : belowB b m with
          | false => simp (config := { decide := true }) only [m_is_place, F_is_place, runD, sRet, sq, sIf, bB, b1, b2, b3, b1F, b2F, b3S, vget, rget, gL, gM, vAnd, vOr, vNot, bAnd, bOr, bNot, bTru, truD, asB, asI, oI, aCons, sSet, sSetL, sAsg, gN, gNl, gCs, gT, sFor, forD, sWhile, sComp, compL, iL, iT, iR1, iR2, iEn, enumF, asL, asT, rng, RD.inR, sApp, sSetIx, frz, addO, subO, mulO, modO, fdivO, negO, ixO, lenO, tupO, lstO, intO, dep, depL, ltO, leO, gtO, geO, isO, isnO, catL, dIn, dGet, sDict, sSetM, sDnew, sDput, allO, anyO, isiO, mulT, iS, asS, slD, slF, cutD, Option.bind_some, Option.bind_none, Option.map_some, Option.map_none, List.getElem?_cons_zero, List.getElem?_cons_succ, List.getElem?_nil, List.set_cons_zero, List.set_cons_succ, List.length_cons, List.length_nil, List.map_cons, List.map_nil, List.cons_append, List.nil_append, List.append_nil, List.replicate_succ, List.replicate_zero, Nat.reduceAdd, Nat.reduceSub, Nat.reduceLeDiff, Nat.reduceLT, if_true, if_false, ite_true, ite_false, true_and, and_true, Bool.false_eq_true, decide_true, decide_false, Bool.not_true, Bool.not_false, List.range_zero, Int.toNat_zero, List.length_map, List.length_append, List.length_replicate, Nat.zero_add, Int.zero_add, reduceIte, reduceCtorEq, Int.reduceLT, Int.reduceLE, Int.reducePow, Int.reduceNeg, Int.reduceMul, Int.reduceAdd, Int.reduceSub, Int.reduceToNat, true_or, or_true, and_self, or_self, Bool.and_self, Bool.true_and, Bool.and_true, Bool.true_or, Bool.or_true, Bool.false_and, Bool.false_or, Nat.reduceMul, Nat.reducePow, Int.reduceEq, Nat.reduceEqDiff, Int.natCast_zero, Int.cast_ofNat_Int, Int.ofNat_eq_natCast, ee, isiB, tyD, show neO (.int 4) (.int 4) = some (.bl false) from rfl, at0, at1, at2, nk, m_below, qa, qb]
          | true =>
            obtain ⟨i, rfl⟩ := below_int qa
            obtain ⟨j, rfl⟩ := below_int qb
            have nij : neO (.int i) (.int j) = some (.bl (!eqD (.int i) (.int j))) := by unfold neO; rw [if_pos (by simp [dep])]
            cases qe : eqD (.int i) (.int j) with
            | true =>
              rw [qe] at nij
              simp (config := { decide := true }) only [m_is_place, F_is_place, runD, sRet, sq, sIf, bB, b1, b2, b3, b1F, b2F, b3S, vget, rget, gL, gM, vAnd, vOr, vNot, bAnd, bOr, bNot, bTru, truD, asB, asI, oI, aCons, sSet, sSetL, sAsg, gN, gNl, gCs, gT, sFor, forD, sWhile, sComp, compL, iL, iT, iR1, iR2, iEn, enumF, asL, asT, rng, RD.inR, sApp, sSetIx, frz, addO, subO, mulO, modO, fdivO, negO, ixO, lenO, tupO, lstO, intO, dep, depL, ltO, leO, gtO, geO, isO, isnO, catL, dIn, dGet, sDict, sSetM, sDnew, sDput, allO, anyO, isiO, mulT, iS, asS, slD, slF, cutD, Option.bind_some, Option.bind_none, Option.map_some, Option.map_none, List.getElem?_cons_zero, List.getElem?_cons_succ, List.getElem?_nil, List.set_cons_zero, List.set_cons_succ, List.length_cons, List.length_nil, List.map_cons, List.map_nil, List.cons_append, List.nil_append, List.append_nil, List.replicate_succ, List.replicate_zero, Nat.reduceAdd, Nat.reduceSub, Nat.reduceLeDiff, Nat.reduceLT, if_true, if_false, ite_true, ite_false, true_and, and_true, Bool.false_eq_true, decide_true, decide_false, Bool.not_true, Bool.not_false, List.range_zero, Int.toNat_zero, List.length_map, List.length_append, List.length_replicate, Nat.zero_add, Int.zero_add, reduceIte, reduceCtorEq, Int.reduceLT, Int.reduceLE, Int.reducePow, Int.reduceNeg, Int.reduceMul, Int.reduceAdd, Int.reduceSub, Int.reduceToNat, true_or, or_true, and_self, or_self, Bool.and_self, Bool.true_and, Bool.and_true, Bool.true_or, Bool.or_true, Bool.false_and, Bool.false_or, Nat.reduceMul, Nat.reducePow, Int.reduceEq, Nat.reduceEqDiff, Int.natCast_zero, Int.cast_ofNat_Int, Int.ofNat_eq_natCast, ee, isiB, tyD, show neO (.int 4) (.int 4) = some (.bl false) from rfl, at0, at1, at2, at3, nk, m_below, qa, qb, nij]
            | false =>
              rw [qe] at nij
              simp (config := { decide := true }) only [m_is_place, F_is_place, runD, sRet, sq, sIf, bB, b1, b2, b3, b1F, b2F, b3S, vget, rget, gL, gM, vAnd, vOr, vNot, bAnd, bOr, bNot, bTru, truD, asB, asI, oI, aCons, sSet, sSetL, sAsg, gN, gNl, gCs, gT, sFor, forD, sWhile, sComp, compL, iL, iT, iR1, iR2, iEn, enumF, asL, asT, rng, RD.inR, sApp, sSetIx, frz, addO, subO, mulO, modO, fdivO, negO, ixO, lenO, tupO, lstO, intO, dep, depL, ltO, leO, gtO, geO, isO, isnO, catL, dIn, dGet, sDict, sSetM, sDnew, sDput, allO, anyO, isiO, mulT, iS, asS, slD, slF, cutD, Option.bind_some, Option.bind_none, Option.map_some, Option.map_none, List.getElem?_cons_zero, List.getElem?_cons_succ, List.getElem?_nil, List.set_cons_zero, List.set_cons_succ, List.length_cons, List.length_nil, List.map_cons, List.map_nil, List.cons_append, List.nil_append, List.append_nil, List.replicate_succ, List.replicate_zero, Nat.reduceAdd, Nat.reduceSub, Nat.reduceLeDiff, Nat.reduceLT, if_true, if_false, ite_true, ite_false, true_and, and_true, Bool.false_eq_true, decide_true, decide_false, Bool.not_true, Bool.not_false, List.range_zero, Int.toNat_zero, List.length_map, List.length_append, List.length_replicate, Nat.zero_add, Int.zero_add, reduceIte, reduceCtorEq, Int.reduceLT, Int.reduceLE, Int.reducePow, Int.reduceNeg, Int.reduceMul, Int.reduceAdd, Int.reduceSub, Int.reduceToNat, true_or, or_true, and_self, or_self, Bool.and_self, Bool.true_and, Bool.and_true, Bool.true_or, Bool.or_true, Bool.false_and, Bool.false_or, Nat.reduceMul, Nat.reducePow, Int.reduceEq, Nat.reduceEqDiff, Int.natCast_zero, Int.cast_ofNat_Int, Int.ofNat_eq_natCast, ee, isiB, tyD, show neO (.int 4) (.int 4) = some (.bl false) from rfl, at0, at1, at2, at3, nk, m_below, qa, qb, nij, hc]
    | [], _ => simp (config := { decide := true }) only [m_is_place, F_is_place, runD, sRet, sq, sIf, bB, b1, b2, b3, b1F, b2F, b3S, vget, rget, gL, gM, vAnd, vOr, vNot, bAnd, bOr, bNot, bTru, truD, asB, asI, oI, aCons, sSet, sSetL, sAsg, gN, gNl, gCs, gT, sFor, forD, sWhile, sComp, compL, iL, iT, iR1, iR2, iEn, enumF, asL, asT, rng, RD.inR, sApp, sSetIx, frz, addO, subO, mulO, modO, fdivO, negO, ixO, lenO, tupO, lstO, intO, neO, dep, depL, eqD, eqL, ltO, leO, gtO, geO, isO, isnO, catL, dIn, dGet, sDict, sSetM, sDnew, sDput, allO, anyO, isiO, mulT, iS, asS, slD, slF, cutD, Option.bind_some, Option.bind_none, Option.map_some, Option.map_none, List.getElem?_cons_zero, List.getElem?_cons_succ, List.getElem?_nil, List.set_cons_zero, List.set_cons_succ, List.length_cons, List.length_nil, List.map_cons, List.map_nil, List.cons_append, List.nil_append, List.append_nil, List.replicate_succ, List.replicate_zero, Nat.reduceAdd, Nat.reduceSub, Nat.reduceLeDiff, Nat.reduceLT, if_true, if_false, ite_true, ite_false, true_and, and_true, Bool.false_eq_true, decide_true, decide_false, Bool.not_true, Bool.not_false, List.range_zero, Int.toNat_zero, List.length_map, List.length_append, List.length_replicate, Nat.zero_add, Int.zero_add, reduceIte, reduceCtorEq, Int.reduceLT, Int.reduceLE, Int.reducePow, Int.reduceNeg, Int.reduceMul, Int.reduceAdd, Int.reduceSub, Int.reduceToNat, true_or, or_true, and_self, or_self, Bool.and_self, Bool.true_and, Bool.and_true, Bool.true_or, Bool.or_true, Bool.false_and, Bool.false_or, Nat.reduceMul, Nat.reducePow, Int.reduceEq, Nat.reduceEqDiff, Int.natCast_zero, Int.cast_ofNat_Int, Int.ofNat_eq_natCast, ee, isiB, tyD, placeB, endD]
    | [_], _ =>
      unfold placeB; rw [hne]
      simp (config := { decide := true }) only [m_is_place, F_is_place, runD, sRet, sq, sIf, bB, b1, b2, b3, b1F, b2F, b3S, vget, rget, gL, gM, vAnd, vOr, vNot, bAnd, bOr, bNot, bTru, truD, asB, asI, oI, aCons, sSet, sSetL, sAsg, gN, gNl, gCs, gT, sFor, forD, sWhile, sComp, compL, iL, iT, iR1, iR2, iEn, enumF, asL, asT, rng, RD.inR, sApp, sSetIx, frz, addO, subO, mulO, modO, fdivO, negO, ixO, lenO, tupO, lstO, intO, neO, dep, depL, eqD, eqL, ltO, leO, gtO, geO, isO, isnO, catL, dIn, dGet, sDict, sSetM, sDnew, sDput, allO, anyO, isiO, mulT, iS, asS, slD, slF, cutD, Option.bind_some, Option.bind_none, Option.map_some, Option.map_none, List.getElem?_cons_zero, List.getElem?_cons_succ, List.getElem?_nil, List.set_cons_zero, List.set_cons_succ, List.length_cons, List.length_nil, List.map_cons, List.map_nil, List.cons_append, List.nil_append, List.append_nil, List.replicate_succ, List.replicate_zero, Nat.reduceAdd, Nat.reduceSub, Nat.reduceLeDiff, Nat.reduceLT, if_true, if_false, ite_true, ite_false, true_and, and_true, Bool.false_eq_true, decide_true, decide_false, Bool.not_true, Bool.not_false, List.range_zero, Int.toNat_zero, List.length_map, List.length_append, List.length_replicate, Nat.zero_add, Int.zero_add, reduceIte, reduceCtorEq, Int.reduceLT, Int.reduceLE, Int.reducePow, Int.reduceNeg, Int.reduceMul, Int.reduceAdd, Int.reduceSub, Int.reduceToNat, true_or, or_true, and_self, or_self, Bool.and_self, Bool.true_and, Bool.and_true, Bool.true_or, Bool.or_true, Bool.false_and, Bool.false_or, Nat.reduceMul, Nat.reducePow, Int.reduceEq, Nat.reduceEqDiff, Int.natCast_zero, Int.cast_ofNat_Int, Int.ofNat_eq_natCast, ee, isiB, tyD, Int.reduceBEq]
    | [_, _], _ =>
      unfold placeB; rw [hne]
      simp (config := { decide := true }) only [m_is_place, F_is_place, runD, sRet, sq, sIf, bB, b1, b2, b3, b1F, b2F, b3S, vget, rget, gL, gM, vAnd, vOr, vNot, bAnd, bOr, bNot, bTru, truD, asB, asI, oI, aCons, sSet, sSetL, sAsg, gN, gNl, gCs, gT, sFor, forD, sWhile, sComp, compL, iL, iT, iR1, iR2, iEn, enumF, asL, asT, rng, RD.inR, sApp, sSetIx, frz, addO, subO, mulO, modO, fdivO, negO, ixO, lenO, tupO, lstO, intO, neO, dep, depL, eqD, eqL, ltO, leO, gtO, geO, isO, isnO, catL, dIn, dGet, sDict, sSetM, sDnew, sDput, allO, anyO, isiO, mulT, iS, asS, slD, slF, cutD, Option.bind_some, Option.bind_none, Option.map_some, Option.map_none, List.getElem?_cons_zero, List.getElem?_cons_succ, List.getElem?_nil, List.set_cons_zero, List.set_cons_succ, List.length_cons, List.length_nil, List.map_cons, List.map_nil, List.cons_append, List.nil_append, List.append_nil, List.replicate_succ, List.replicate_zero, Nat.reduceAdd, Nat.reduceSub, Nat.reduceLeDiff, Nat.reduceLT, if_true, if_false, ite_true, ite_false, true_and, and_true, Bool.false_eq_true, decide_true, decide_false, Bool.not_true, Bool.not_false, List.range_zero, Int.toNat_zero, List.length_map, List.length_append, List.length_replicate, Nat.zero_add, Int.zero_add, reduceIte, reduceCtorEq, Int.reduceLT, Int.reduceLE, Int.reducePow, Int.reduceNeg, Int.reduceMul, Int.reduceAdd, Int.reduceSub, Int.reduceToNat, true_or, or_true, and_self, or_self, Bool.and_self, Bool.true_and, Bool.and_true, Bool.true_or, Bool.or_true, Bool.false_and, Bool.false_or, Nat.reduceMul, Nat.reducePow, Int.reduceEq, Nat.reduceEqDiff, Int.natCast_zero, Int.cast_ofNat_Int, Int.ofNat_eq_natCast, ee, isiB, tyD, Int.reduceBEq]
    | [_, _, _], _ =>
      unfold placeB; rw [hne]
      simp (config := { decide := true }) only [m_is_place, F_is_place, runD, sRet, sq, sIf, bB, b1, b2, b3, b1F, b2F, b3S, vget, rget, gL, gM, vAnd, vOr, vNot, bAnd, bOr, bNot, bTru, truD, asB, asI, oI, aCons, sSet, sSetL, sAsg, gN, gNl, gCs, gT, sFor, forD, sWhile, sComp, compL, iL, iT, iR1, iR2, iEn, enumF, asL, asT, rng, RD.inR, sApp, sSetIx, frz, addO, subO, mulO, modO, fdivO, negO, ixO, lenO, tupO, lstO, intO, neO, dep, depL, eqD, eqL, ltO, leO, gtO, geO, isO, isnO, catL, dIn, dGet, sDict, sSetM, sDnew, sDput, allO, anyO, isiO, mulT, iS, asS, slD, slF, cutD, Option.bind_some, Option.bind_none, Option.map_some, Option.map_none, List.getElem?_cons_zero, List.getElem?_cons_succ, List.getElem?_nil, List.set_cons_zero, List.set_cons_succ, List.length_cons, List.length_nil, List.map_cons, List.map_nil, List.cons_append, List.nil_append, List.append_nil, List.replicate_succ, List.replicate_zero, Nat.reduceAdd, Nat.reduceSub, Nat.reduceLeDiff, Nat.reduceLT, if_true, if_false, ite_true, ite_false, true_and, and_true, Bool.false_eq_true, decide_true, decide_false, Bool.not_true, Bool.not_false, List.range_zero, Int.toNat_zero, List.length_map, List.length_append, List.length_replicate, Nat.zero_add, Int.zero_add, reduceIte, reduceCtorEq, Int.reduceLT, Int.reduceLE, Int.reducePow, Int.reduceNeg, Int.reduceMul, Int.reduceAdd, Int.reduceSub, Int.reduceToNat, true_or, or_true, and_self, or_self, Bool.and_self, Bool.true_and, Bool.and_true, Bool.true_or, Bool.or_true, Bool.false_and, Bool.false_or, Nat.reduceMul, Nat.reducePow, Int.reduceEq, Nat.reduceEqDiff, Int.natCast_zero, Int.cast_ofNat_Int, Int.ofNat_eq_natCast, ee, isiB, tyD, Int.reduceBEq]
    | a :: b :: c :: d :: e :: l, _ =>
      have e' : (((l.length + 1 + 1 + 1 + 1 + 1 : Nat) : Int) == 4) = false := by simp; omega
      unfold placeB; rw [hne]
      simp (config := { decide := true }) only [m_is_place, F_is_place, runD, sRet, sq, sIf, bB, b1, b2, b3, b1F, b2F, b3S, vget, rget, gL, gM, vAnd, vOr, vNot, bAnd, bOr, bNot, bTru, truD, asB, asI, oI, aCons, sSet, sSetL, sAsg, gN, gNl, gCs, gT, sFor, forD, sWhile, sComp, compL, iL, iT, iR1, iR2, iEn, enumF, asL, asT, rng, RD.inR, sApp, sSetIx, frz, addO, subO, mulO, modO, fdivO, negO, ixO, lenO, tupO, lstO, intO, neO, dep, depL, eqD, eqL, ltO, leO, gtO, geO, isO, isnO, catL, dIn, dGet, sDict, sSetM, sDnew, sDput, allO, anyO, isiO, mulT, iS, asS, slD, slF, cutD, Option.bind_some, Option.bind_none, Option.map_some, Option.map_none, List.getElem?_cons_zero, List.getElem?_cons_succ, List.getElem?_nil, List.set_cons_zero, List.set_cons_succ, List.length_cons, List.length_nil, List.map_cons, List.map_nil, List.cons_append, List.nil_append, List.append_nil, List.replicate_succ, List.replicate_zero, Nat.reduceAdd, Nat.reduceSub, Nat.reduceLeDiff, Nat.reduceLT, if_true, if_false, ite_true, ite_false, true_and, and_true, Bool.false_eq_true, decide_true, decide_false, Bool.not_true, Bool.not_false, List.range_zero, Int.toNat_zero, List.length_map, List.length_append, List.length_replicate, Nat.zero_add, Int.zero_add, reduceIte, reduceCtorEq, Int.reduceLT, Int.reduceLE, Int.reducePow, Int.reduceNeg, Int.reduceMul, Int.reduceAdd, Int.reduceSub, Int.reduceToNat, true_or, or_true, and_self, or_self, Bool.and_self, Bool.true_and, Bool.and_true, Bool.true_or, Bool.or_true, Bool.false_and, Bool.false_or, Nat.reduceMul, Nat.reducePow, Int.reduceEq, Nat.reduceEqDiff, Int.natCast_zero, Int.cast_ofNat_Int, Int.ofNat_eq_natCast, ee, isiB, tyD, e']
  | _ =>
    unfold placeB; rw [hne]
    simp (config := { decide := true }) only [m_is_place, F_is_place, runD, sRet, sq, sIf, bB, b1, b2, b3, b1F, b2F, b3S, vget, rget, gL, gM, vAnd, vOr, vNot, bAnd, bOr, bNot, bTru, truD, asB, asI, oI, aCons, sSet, sSetL, sAsg, gN, gNl, gCs, gT, sFor, forD, sWhile, sComp, compL, iL, iT, iR1, iR2, iEn, enumF, asL, asT, rng, RD.inR, sApp, sSetIx, frz, addO, subO, mulO, modO, fdivO, negO, ixO, lenO, tupO, lstO, intO, neO, dep, depL, eqD, eqL, ltO, leO, gtO, geO, isO, isnO, catL, dIn, dGet, sDict, sSetM, sDnew, sDput, allO, anyO, isiO, mulT, iS, asS, slD, slF, cutD, Option.bind_some, Option.bind_none, Option.map_some, Option.map_none, List.getElem?_cons_zero, List.getElem?_cons_succ, List.getElem?_nil, List.set_cons_zero, List.set_cons_succ, List.length_cons, List.length_nil, List.map_cons, List.map_nil, List.cons_append, List.nil_append, List.append_nil, List.replicate_succ, List.replicate_zero, Nat.reduceAdd, Nat.reduceSub, Nat.reduceLeDiff, Nat.reduceLT, if_true, if_false, ite_true, ite_false, true_and, and_true, Bool.false_eq_true, decide_true, decide_false, Bool.not_true, Bool.not_false, List.range_zero, Int.toNat_zero, List.length_map, List.length_append, List.length_replicate, Nat.zero_add, Int.zero_add, reduceIte, reduceCtorEq, Int.reduceLT, Int.reduceLE, Int.reducePow, Int.reduceNeg, Int.reduceMul, Int.reduceAdd, Int.reduceSub, Int.reduceToNat, true_or, or_true, and_self, or_self, Bool.and_self, Bool.true_and, Bool.and_true, Bool.true_or, Bool.or_true, Bool.false_and, Bool.false_or, Nat.reduceMul, Nat.reducePow, Int.reduceEq, Nat.reduceEqDiff, Int.natCast_zero, Int.cast_ofNat_Int, Int.ofNat_eq_natCast, ee, isiB, tyD]
theorem m_place_is (d : D) (m n : Int) (h : szP d) : m_is_place [d, .int m, .int n] = some (.bl (placeB d m n)) := by
  cases q : eqD d endD with
  | false => exact place_core h q
  | true =>
    have ee := eqO_end d
    rw [q] at ee
    simp only [endD] at ee
    have pb : placeB d m n = true := by unfold placeB; rw [q]; rfl
    rw [pb]
    simp (config := { decide := true }) only [m_is_place, F_is_place, runD, sRet, sq, sIf, bB, b1, b2, b3, b1F, b2F, b3S, vget, rget, gL, gM, vAnd, vOr, vNot, bAnd, bOr, bNot, bTru, truD, asB, asI, oI, aCons, sSet, sSetL, sAsg, gN, gNl, gCs, gT, sFor, forD, sWhile, sComp, compL, iL, iT, iR1, iR2, iEn, enumF, asL, asT, rng, RD.inR, sApp, sSetIx, frz, addO, subO, mulO, modO, fdivO, negO, ixO, lenO, tupO, lstO, intO, neO, dep, depL, eqD, eqL, ltO, leO, gtO, geO, isO, isnO, catL, dIn, dGet, sDict, sSetM, sDnew, sDput, allO, anyO, isiO, mulT, iS, asS, slD, slF, cutD, Option.bind_some, Option.bind_none, Option.map_some, Option.map_none, List.getElem?_cons_zero, List.getElem?_cons_succ, List.getElem?_nil, List.set_cons_zero, List.set_cons_succ, List.length_cons, List.length_nil, List.map_cons, List.map_nil, List.cons_append, List.nil_append, List.append_nil, List.replicate_succ, List.replicate_zero, Nat.reduceAdd, Nat.reduceSub, Nat.reduceLeDiff, Nat.reduceLT, if_true, if_false, ite_true, ite_false, true_and, and_true, Bool.false_eq_true, decide_true, decide_false, Bool.not_true, Bool.not_false, List.range_zero, Int.toNat_zero, List.length_map, List.length_append, List.length_replicate, Nat.zero_add, Int.zero_add, reduceIte, reduceCtorEq, Int.reduceLT, Int.reduceLE, Int.reducePow, Int.reduceNeg, Int.reduceMul, Int.reduceAdd, Int.reduceSub, Int.reduceToNat, true_or, or_true, and_self, or_self, Bool.and_self, Bool.true_and, Bool.and_true, Bool.true_or, Bool.or_true, Bool.false_and, Bool.false_or, Nat.reduceMul, Nat.reducePow, Int.reduceEq, Nat.reduceEqDiff, Int.natCast_zero, Int.cast_ofNat_Int, Int.ofNat_eq_natCast, ee]
/-! whole things -/
def danceB (a b : D) : Bool := match a with
  | .int m => decide (2 ≤ m) && decide (m ≤ 4) && (match b with
    | .tup xs => decide (1 ≤ xs.length) && decide (xs.length ≤ 40) && xs.all (placeB · m (xs.length : Int))
    | _ => false)
  | _ => false
theorem m_dance2 (a b : D) (h : ∀ xs, b = .tup xs → ∀ d ∈ xs, szP d) : m_is_dance [.tup [a, b]] = some (.bl (danceB a b)) := by
  cases a with
  | int m =>
    by_cases h1 : 2 ≤ m
    · by_cases h2 : m ≤ 4
      · cases b with
        | tup xs =>
          by_cases k1 : 1 ≤ xs.length
          · by_cases k2 : xs.length ≤ 40
            · have i1 : (1 : Int) ≤ (xs.length : Int) := by omega
              have i2 : (xs.length : Int) ≤ 40 := by omega
              have hl : xs.length ≤ 1000000 := by omega
              have c := compL_filter (g := gN 3) (p := fun _ => some true) (f := (fun ρ => ((aCons (fun ρ => vget ρ 3) (aCons (fun ρ => vget ρ 1) (aCons (b1 (fun ρ => rget ρ 2) lenO) (fun _ => some [])))) ρ).bind m_is_place)) (emb := id) (ρ := [.v (.tup [.int m, .tup xs]), .v (.int m), .v (.tup xs), .un]) (fun _ => true) (fun e => D.bl (placeB e m (xs.length : Int))) xs fun e he => ⟨_, rfl, rfl, fun _ => by
                simp (config := { decide := true }) only [runD, sRet, sq, sIf, bB, b1, b2, b3, b1F, b2F, b3S, vget, rget, gL, gM, vAnd, vOr, vNot, bAnd, bOr, bNot, bTru, truD, asB, asI, oI, aCons, sSet, sSetL, sAsg, gN, gNl, gCs, gT, sFor, forD, sWhile, sComp, iL, iT, iR1, iR2, iEn, enumF, asL, asT, rng, RD.inR, sApp, sSetIx, frz, addO, subO, mulO, modO, fdivO, negO, ixO, atI, ixN, lenO, tupO, lstO, intO, eqO, neO, dep, depL, eqD, eqL, ltO, leO, gtO, geO, isO, isnO, catL, dIn, dGet, sDict, sSetM, sDnew, sDput, allO, anyO, isiO, mulT, iS, asS, slD, slF, cutD, Option.bind_some, Option.bind_none, Option.map_some, Option.map_none, List.getElem?_cons_zero, List.getElem?_cons_succ, List.getElem?_nil, List.set_cons_zero, List.set_cons_succ, List.length_cons, List.length_nil, List.map_cons, List.map_nil, List.cons_append, List.nil_append, List.append_nil, List.replicate_succ, List.replicate_zero, Nat.reduceAdd, Nat.reduceSub, Nat.reduceLeDiff, Nat.reduceLT, if_true, if_false, ite_true, ite_false, true_and, and_true, Bool.false_eq_true, decide_true, decide_false, Bool.not_true, Bool.not_false, List.range_zero, Int.toNat_zero, List.length_map, List.length_append, List.length_replicate, Nat.zero_add, Int.zero_add, reduceIte, reduceCtorEq, Int.reduceLT, Int.reduceLE, Int.reducePow, Int.reduceNeg, Int.reduceMul, Int.reduceAdd, Int.reduceSub, Int.reduceToNat, true_or, or_true, and_self, or_self, Bool.and_self, Bool.true_and, Bool.and_true, Bool.true_or, Bool.or_true, Bool.false_and, Bool.false_or, Nat.reduceMul, Nat.reducePow, Int.reduceEq, Nat.reduceEqDiff, Int.natCast_zero, Int.cast_ofNat_Int, Int.ofNat_eq_natCast, id, m_place_is e m (xs.length : Int) (h xs rfl e he)]⟩
              rw [List.filter_eq_self.mpr (by simp), List.map_id] at c
              have e : (xs.map fun c => D.bl (placeB c m (xs.length : Int))) = (xs.map fun c => placeB c m (xs.length : Int)).map D.bl := by rw [List.map_map]; rfl
              rw [e] at c
              have all_id : (xs.map fun c => placeB c m (xs.length : Int)).all id = xs.all (placeB · m (xs.length : Int)) := by rw [List.all_map]; rfl
              have db : danceB (.int m) (.tup xs) = xs.all (placeB · m (xs.length : Int)) := by simp [danceB, h1, h2, k1, k2]
              rw [db]
              unfold m_is_dance F_is_dance
              generalize (fun ρ => ((aCons (fun ρ => vget ρ 3) (aCons (fun ρ => vget ρ 1) (aCons (b1 (fun ρ => rget ρ 2) lenO) (fun _ => some [])))) ρ).bind m_is_place) = el at c ⊢
              simp (config := { decide := true }) only [runD, sRet, sq, sIf, bB, b1, b2, b3, b1F, b2F, b3S, vget, rget, gL, gM, vAnd, vOr, vNot, bAnd, bOr, bNot, bTru, truD, asB, asI, oI, aCons, sSet, sSetL, sAsg, gN, gNl, gCs, gT, sFor, forD, sWhile, sComp, iL, iT, iR1, iR2, iEn, enumF, asL, asT, rng, RD.inR, sApp, sSetIx, frz, addO, subO, mulO, modO, fdivO, negO, ixO, lenO, tupO, lstO, intO, eqO, neO, dep, depL, eqD, eqL, ltO, leO, gtO, geO, isO, isnO, catL, dIn, dGet, sDict, sSetM, sDnew, sDput, allO, anyO, isiO, mulT, iS, asS, slD, slF, cutD, Option.bind_some, Option.bind_none, Option.map_some, Option.map_none, List.getElem?_cons_zero, List.getElem?_cons_succ, List.getElem?_nil, List.set_cons_zero, List.set_cons_succ, List.length_cons, List.length_nil, List.map_cons, List.map_nil, List.cons_append, List.nil_append, List.append_nil, List.replicate_succ, List.replicate_zero, Nat.reduceAdd, Nat.reduceSub, Nat.reduceLeDiff, Nat.reduceLT, if_true, if_false, ite_true, ite_false, true_and, and_true, Bool.false_eq_true, decide_true, decide_false, Bool.not_true, Bool.not_false, List.range_zero, Int.toNat_zero, List.length_map, List.length_append, List.length_replicate, Nat.zero_add, Int.zero_add, reduceIte, reduceCtorEq, Int.reduceLT, Int.reduceLE, Int.reducePow, Int.reduceNeg, Int.reduceMul, Int.reduceAdd, Int.reduceSub, Int.reduceToNat, true_or, or_true, and_self, or_self, Bool.and_self, Bool.true_and, Bool.and_true, Bool.true_or, Bool.or_true, Bool.false_and, Bool.false_or, Nat.reduceMul, Nat.reducePow, Int.reduceEq, Nat.reduceEqDiff, Int.natCast_zero, Int.cast_ofNat_Int, Int.ofNat_eq_natCast, isiB, tyD, Int.reduceBEq, at0, at1, m_whole, wholeB, h1, h2, i1, i2, hl, c, bools_map, all_id]
            · have i1 : (1 : Int) ≤ (xs.length : Int) := by omega
              have i2 : ¬ (xs.length : Int) ≤ 40 := by omega
              simp (config := { decide := true }) only [m_is_dance, F_is_dance, runD, sRet, sq, sIf, bB, b1, b2, b3, b1F, b2F, b3S, vget, rget, gL, gM, vAnd, vOr, vNot, bAnd, bOr, bNot, bTru, truD, asB, asI, oI, aCons, sSet, sSetL, sAsg, gN, gNl, gCs, gT, sFor, forD, sWhile, sComp, iL, iT, iR1, iR2, iEn, enumF, asL, asT, rng, RD.inR, sApp, sSetIx, frz, addO, subO, mulO, modO, fdivO, negO, ixO, lenO, tupO, lstO, intO, eqO, neO, dep, depL, eqD, eqL, ltO, leO, gtO, geO, isO, isnO, catL, dIn, dGet, sDict, sSetM, sDnew, sDput, allO, anyO, isiO, mulT, iS, asS, slD, slF, cutD, Option.bind_some, Option.bind_none, Option.map_some, Option.map_none, List.getElem?_cons_zero, List.getElem?_cons_succ, List.getElem?_nil, List.set_cons_zero, List.set_cons_succ, List.length_cons, List.length_nil, List.map_cons, List.map_nil, List.cons_append, List.nil_append, List.append_nil, List.replicate_succ, List.replicate_zero, Nat.reduceAdd, Nat.reduceSub, Nat.reduceLeDiff, Nat.reduceLT, if_true, if_false, ite_true, ite_false, true_and, and_true, Bool.false_eq_true, decide_true, decide_false, Bool.not_true, Bool.not_false, List.range_zero, Int.toNat_zero, List.length_map, List.length_append, List.length_replicate, Nat.zero_add, Int.zero_add, reduceIte, reduceCtorEq, Int.reduceLT, Int.reduceLE, Int.reducePow, Int.reduceNeg, Int.reduceMul, Int.reduceAdd, Int.reduceSub, Int.reduceToNat, true_or, or_true, and_self, or_self, Bool.and_self, Bool.true_and, Bool.and_true, Bool.true_or, Bool.or_true, Bool.false_and, Bool.false_or, Nat.reduceMul, Nat.reducePow, Int.reduceEq, Nat.reduceEqDiff, Int.natCast_zero, Int.cast_ofNat_Int, Int.ofNat_eq_natCast, isiB, tyD, Int.reduceBEq, at0, at1, m_whole, wholeB, h1, h2, i1, i2, danceB, k1, k2]
          · have i1 : ¬ (1 : Int) ≤ (xs.length : Int) := by omega
            simp (config := { decide := true }) only [m_is_dance, F_is_dance, runD, sRet, sq, sIf, bB, b1, b2, b3, b1F, b2F, b3S, vget, rget, gL, gM, vAnd, vOr, vNot, bAnd, bOr, bNot, bTru, truD, asB, asI, oI, aCons, sSet, sSetL, sAsg, gN, gNl, gCs, gT, sFor, forD, sWhile, sComp, iL, iT, iR1, iR2, iEn, enumF, asL, asT, rng, RD.inR, sApp, sSetIx, frz, addO, subO, mulO, modO, fdivO, negO, ixO, lenO, tupO, lstO, intO, eqO, neO, dep, depL, eqD, eqL, ltO, leO, gtO, geO, isO, isnO, catL, dIn, dGet, sDict, sSetM, sDnew, sDput, allO, anyO, isiO, mulT, iS, asS, slD, slF, cutD, Option.bind_some, Option.bind_none, Option.map_some, Option.map_none, List.getElem?_cons_zero, List.getElem?_cons_succ, List.getElem?_nil, List.set_cons_zero, List.set_cons_succ, List.length_cons, List.length_nil, List.map_cons, List.map_nil, List.cons_append, List.nil_append, List.append_nil, List.replicate_succ, List.replicate_zero, Nat.reduceAdd, Nat.reduceSub, Nat.reduceLeDiff, Nat.reduceLT, if_true, if_false, ite_true, ite_false, true_and, and_true, Bool.false_eq_true, decide_true, decide_false, Bool.not_true, Bool.not_false, List.range_zero, Int.toNat_zero, List.length_map, List.length_append, List.length_replicate, Nat.zero_add, Int.zero_add, reduceIte, reduceCtorEq, Int.reduceLT, Int.reduceLE, Int.reducePow, Int.reduceNeg, Int.reduceMul, Int.reduceAdd, Int.reduceSub, Int.reduceToNat, true_or, or_true, and_self, or_self, Bool.and_self, Bool.true_and, Bool.and_true, Bool.true_or, Bool.or_true, Bool.false_and, Bool.false_or, Nat.reduceMul, Nat.reducePow, Int.reduceEq, Nat.reduceEqDiff, Int.natCast_zero, Int.cast_ofNat_Int, Int.ofNat_eq_natCast, isiB, tyD, Int.reduceBEq, at0, at1, m_whole, wholeB, h1, h2, i1, danceB, k1]
        | _ => simp (config := { decide := true }) only [m_is_dance, F_is_dance, runD, sRet, sq, sIf, bB, b1, b2, b3, b1F, b2F, b3S, vget, rget, gL, gM, vAnd, vOr, vNot, bAnd, bOr, bNot, bTru, truD, asB, asI, oI, aCons, sSet, sSetL, sAsg, gN, gNl, gCs, gT, sFor, forD, sWhile, sComp, iL, iT, iR1, iR2, iEn, enumF, asL, asT, rng, RD.inR, sApp, sSetIx, frz, addO, subO, mulO, modO, fdivO, negO, ixO, lenO, tupO, lstO, intO, eqO, neO, dep, depL, eqD, eqL, ltO, leO, gtO, geO, isO, isnO, catL, dIn, dGet, sDict, sSetM, sDnew, sDput, allO, anyO, isiO, mulT, iS, asS, slD, slF, cutD, Option.bind_some, Option.bind_none, Option.map_some, Option.map_none, List.getElem?_cons_zero, List.getElem?_cons_succ, List.getElem?_nil, List.set_cons_zero, List.set_cons_succ, List.length_cons, List.length_nil, List.map_cons, List.map_nil, List.cons_append, List.nil_append, List.append_nil, List.replicate_succ, List.replicate_zero, Nat.reduceAdd, Nat.reduceSub, Nat.reduceLeDiff, Nat.reduceLT, if_true, if_false, ite_true, ite_false, true_and, and_true, Bool.false_eq_true, decide_true, decide_false, Bool.not_true, Bool.not_false, List.range_zero, Int.toNat_zero, List.length_map, List.length_append, List.length_replicate, Nat.zero_add, Int.zero_add, reduceIte, reduceCtorEq, Int.reduceLT, Int.reduceLE, Int.reducePow, Int.reduceNeg, Int.reduceMul, Int.reduceAdd, Int.reduceSub, Int.reduceToNat, true_or, or_true, and_self, or_self, Bool.and_self, Bool.true_and, Bool.and_true, Bool.true_or, Bool.or_true, Bool.false_and, Bool.false_or, Nat.reduceMul, Nat.reducePow, Int.reduceEq, Nat.reduceEqDiff, Int.natCast_zero, Int.cast_ofNat_Int, Int.ofNat_eq_natCast, isiB, tyD, Int.reduceBEq, at0, at1, m_whole, wholeB, h1, h2, danceB]
      · simp (config := { decide := true }) only [m_is_dance, F_is_dance, runD, sRet, sq, sIf, bB, b1, b2, b3, b1F, b2F, b3S, vget, rget, gL, gM, vAnd, vOr, vNot, bAnd, bOr, bNot, bTru, truD, asB, asI, oI, aCons, sSet, sSetL, sAsg, gN, gNl, gCs, gT, sFor, forD, sWhile, sComp, iL, iT, iR1, iR2, iEn, enumF, asL, asT, rng, RD.inR, sApp, sSetIx, frz, addO, subO, mulO, modO, fdivO, negO, ixO, lenO, tupO, lstO, intO, eqO, neO, dep, depL, eqD, eqL, ltO, leO, gtO, geO, isO, isnO, catL, dIn, dGet, sDict, sSetM, sDnew, sDput, allO, anyO, isiO, mulT, iS, asS, slD, slF, cutD, Option.bind_some, Option.bind_none, Option.map_some, Option.map_none, List.getElem?_cons_zero, List.getElem?_cons_succ, List.getElem?_nil, List.set_cons_zero, List.set_cons_succ, List.length_cons, List.length_nil, List.map_cons, List.map_nil, List.cons_append, List.nil_append, List.append_nil, List.replicate_succ, List.replicate_zero, Nat.reduceAdd, Nat.reduceSub, Nat.reduceLeDiff, Nat.reduceLT, if_true, if_false, ite_true, ite_false, true_and, and_true, Bool.false_eq_true, decide_true, decide_false, Bool.not_true, Bool.not_false, List.range_zero, Int.toNat_zero, List.length_map, List.length_append, List.length_replicate, Nat.zero_add, Int.zero_add, reduceIte, reduceCtorEq, Int.reduceLT, Int.reduceLE, Int.reducePow, Int.reduceNeg, Int.reduceMul, Int.reduceAdd, Int.reduceSub, Int.reduceToNat, true_or, or_true, and_self, or_self, Bool.and_self, Bool.true_and, Bool.and_true, Bool.true_or, Bool.or_true, Bool.false_and, Bool.false_or, Nat.reduceMul, Nat.reducePow, Int.reduceEq, Nat.reduceEqDiff, Int.natCast_zero, Int.cast_ofNat_Int, Int.ofNat_eq_natCast, isiB, tyD, Int.reduceBEq, at0, at1, m_whole, wholeB, h1, h2, danceB]
    · simp (config := { decide := true }) only [m_is_dance, F_is_dance, runD, sRet, sq, sIf, bB, b1, b2, b3, b1F, b2F, b3S, vget, rget, gL, gM, vAnd, vOr, vNot, bAnd, bOr, bNot, bTru, truD, asB, asI, oI, aCons, sSet, sSetL, sAsg, gN, gNl, gCs, gT, sFor, forD, sWhile, sComp, iL, iT, iR1, iR2, iEn, enumF, asL, asT, rng, RD.inR, sApp, sSetIx, frz, addO, subO, mulO, modO, fdivO, negO, ixO, lenO, tupO, lstO, intO, eqO, neO, dep, depL, eqD, eqL, ltO, leO, gtO, geO, isO, isnO, catL, dIn, dGet, sDict, sSetM, sDnew, sDput, allO, anyO, isiO, mulT, iS, asS, slD, slF, cutD, Option.bind_some, Option.bind_none, Option.map_some, Option.map_none, List.getElem?_cons_zero, List.getElem?_cons_succ, List.getElem?_nil, List.set_cons_zero, List.set_cons_succ, List.length_cons, List.length_nil, List.map_cons, List.map_nil, List.cons_append, List.nil_append, List.append_nil, List.replicate_succ, List.replicate_zero, Nat.reduceAdd, Nat.reduceSub, Nat.reduceLeDiff, Nat.reduceLT, if_true, if_false, ite_true, ite_false, true_and, and_true, Bool.false_eq_true, decide_true, decide_false, Bool.not_true, Bool.not_false, List.range_zero, Int.toNat_zero, List.length_map, List.length_append, List.length_replicate, Nat.zero_add, Int.zero_add, reduceIte, reduceCtorEq, Int.reduceLT, Int.reduceLE, Int.reducePow, Int.reduceNeg, Int.reduceMul, Int.reduceAdd, Int.reduceSub, Int.reduceToNat, true_or, or_true, and_self, or_self, Bool.and_self, Bool.true_and, Bool.and_true, Bool.true_or, Bool.or_true, Bool.false_and, Bool.false_or, Nat.reduceMul, Nat.reducePow, Int.reduceEq, Nat.reduceEqDiff, Int.natCast_zero, Int.cast_ofNat_Int, Int.ofNat_eq_natCast, isiB, tyD, Int.reduceBEq, at0, at1, m_whole, wholeB, h1, danceB]
  | _ => simp (config := { decide := true }) only [m_is_dance, F_is_dance, runD, sRet, sq, sIf, bB, b1, b2, b3, b1F, b2F, b3S, vget, rget, gL, gM, vAnd, vOr, vNot, bAnd, bOr, bNot, bTru, truD, asB, asI, oI, aCons, sSet, sSetL, sAsg, gN, gNl, gCs, gT, sFor, forD, sWhile, sComp, iL, iT, iR1, iR2, iEn, enumF, asL, asT, rng, RD.inR, sApp, sSetIx, frz, addO, subO, mulO, modO, fdivO, negO, ixO, lenO, tupO, lstO, intO, eqO, neO, dep, depL, eqD, eqL, ltO, leO, gtO, geO, isO, isnO, catL, dIn, dGet, sDict, sSetM, sDnew, sDput, allO, anyO, isiO, mulT, iS, asS, slD, slF, cutD, Option.bind_some, Option.bind_none, Option.map_some, Option.map_none, List.getElem?_cons_zero, List.getElem?_cons_succ, List.getElem?_nil, List.set_cons_zero, List.set_cons_succ, List.length_cons, List.length_nil, List.map_cons, List.map_nil, List.cons_append, List.nil_append, List.append_nil, List.replicate_succ, List.replicate_zero, Nat.reduceAdd, Nat.reduceSub, Nat.reduceLeDiff, Nat.reduceLT, if_true, if_false, ite_true, ite_false, true_and, and_true, Bool.false_eq_true, decide_true, decide_false, Bool.not_true, Bool.not_false, List.range_zero, Int.toNat_zero, List.length_map, List.length_append, List.length_replicate, Nat.zero_add, Int.zero_add, reduceIte, reduceCtorEq, Int.reduceLT, Int.reduceLE, Int.reducePow, Int.reduceNeg, Int.reduceMul, Int.reduceAdd, Int.reduceSub, Int.reduceToNat, true_or, or_true, and_self, or_self, Bool.and_self, Bool.true_and, Bool.and_true, Bool.true_or, Bool.or_true, Bool.false_and, Bool.false_or, Nat.reduceMul, Nat.reducePow, Int.reduceEq, Nat.reduceEqDiff, Int.natCast_zero, Int.cast_ofNat_Int, Int.ofNat_eq_natCast, isiB, tyD, Int.reduceBEq, at0, at1, m_whole, wholeB, danceB]
end LG

set_option Elab.async false
set_option linter.all false
set_option maxRecDepth 100000
namespace K01
open PySem L2 RD LG
def B_law_1 : Rho → Option Out := (sq (sSet 5 (b2 (fun ρ => rget ρ 4) (b2 (b1 (fun ρ => rget ρ 3) lenO) (fun _ => some (D.int 1)) subO) modO)) (sq (sSet 6 (fun ρ => ((aCons (b2 (fun ρ => rget ρ 3) (fun ρ => rget ρ 5) ixO) (aCons (fun ρ => vget ρ 2) (aCons (b1 (fun ρ => rget ρ 3) lenO) (aCons (b2 (fun ρ => rget ρ 4) (fun _ => some (D.int 64)) fdivO) (fun _ => some []))))) ρ).bind m_law_bad_place)) (sIf (bB (b2 (fun ρ => ((aCons (fun ρ => ((aCons (fun ρ => vget ρ 2) (aCons (b2 (b2 (b3S (fun ρ => rget ρ 3) (fun _ => some none) (oI (fun ρ => vget ρ 5)) slD) (fun ρ => ((aCons (fun ρ => vget ρ 6) (fun _ => some [])) ρ).map D.tup) addO) (b3S (fun ρ => rget ρ 3) (oI (b2 (fun ρ => rget ρ 5) (fun _ => some (D.int 1)) addO)) (fun _ => some none) slD) addO) (fun _ => some []))) ρ).map D.tup) (fun _ => some [])) ρ).bind m_is_dance) (fun _ => some (D.bl false)) isnO)) (sRet (fun _ => some (D.bl false))) (fun ρ => some (Out.nx ρ)))))
def B_law_2 : Rho → Option Out := (sIf (bB (b2 (fun ρ => ((aCons (fun ρ => vget ρ 6) (fun _ => some [])) ρ).bind m_is_dance) (fun _ => some (D.bl false)) isnO)) (sRet (fun _ => some (D.bl false))) (fun ρ => some (Out.nx ρ)))
abbrev n_law : List Str := ["_law_script", "_law_dance_here", "_law_many", "_law_places", "_law_cell_here", "_law_at", "_law_bad", "_law_some"]
def F_law : Rho → Option Out := (sq (sSet 1 (fun ρ => ((aCons (fun ρ => vget ρ 0) (fun _ => some [])) ρ).bind m_law_dance)) (sq (sAsg (fun ρ => vget ρ 1) (gT 2 (gCs (gN 2) (gCs (gN 3) gNl)))) (sq (sIf (bOr (bB (b2 (fun ρ => ((aCons (fun ρ => vget ρ 1) (fun _ => some [])) ρ).bind m_is_dance) (fun _ => some (D.bl true)) isnO)) (bB (b2 (fun ρ => ((aCons (fun ρ => ((aCons (fun ρ => vget ρ 2) (aCons (fun ρ => ((aCons (fun ρ => ((aCons (fun _ => some (D.str "end")) (fun _ => some [])) ρ).map D.tup) (fun _ => some [])) ρ).map D.tup) (fun _ => some []))) ρ).map D.tup) (fun _ => some [])) ρ).bind m_is_dance) (fun _ => some (D.bl true)) isnO))) (sRet (fun _ => some (D.bl false))) (fun ρ => some (Out.nx ρ))) (sq (sFor (iL (fun ρ => ((b3S (fun ρ => rget ρ 0) (oI (fun _ => some (D.int 4))) (oI (fun _ => some (D.int 12))) slF) ρ).map D.lst)) (gN 4) B_law_1) (sq (sSet 7 (fun ρ => ((aCons (fun ρ => ((aCons (fun _ => some (D.int 1)) (aCons (fun ρ => vget ρ 3) (fun _ => some []))) ρ).map D.tup) (aCons (fun ρ => ((aCons (fun _ => some (D.int 5)) (aCons (fun ρ => vget ρ 3) (fun _ => some []))) ρ).map D.tup) (aCons (fun ρ => ((aCons (fun _ => some (D.bl true)) (aCons (fun ρ => vget ρ 3) (fun _ => some []))) ρ).map D.tup) (aCons (fun ρ => ((aCons (fun ρ => vget ρ 2) (fun _ => some [])) ρ).map D.tup) (aCons (fun ρ => ((aCons (fun ρ => vget ρ 2) (aCons (fun ρ => vget ρ 3) (fun _ => some []))) ρ).map D.lst) (aCons (fun ρ => ((aCons (fun ρ => vget ρ 2) (aCons (fun ρ => ((b1F (fun ρ => rget ρ 3) lstO) ρ).map D.lst) (fun _ => some []))) ρ).map D.tup) (aCons (fun _ => some D.non) (fun _ => some [])))))))) ρ).map D.lst)) (sq (sSet 7 (fun ρ => ((b2F (fun ρ => rget ρ 7) (fun ρ => ((aCons (fun ρ => ((aCons (fun _ => some D.non) (aCons (fun ρ => vget ρ 3) (fun _ => some []))) ρ).map D.tup) (aCons (fun ρ => ((aCons (fun _ => some (D.str "2")) (aCons (fun ρ => vget ρ 3) (fun _ => some []))) ρ).map D.tup) (aCons (fun ρ => ((aCons (fun ρ => ((aCons (fun _ => some (D.int 2)) (fun _ => some [])) ρ).map D.tup) (aCons (fun ρ => vget ρ 3) (fun _ => some []))) ρ).map D.tup) (aCons (fun ρ => ((aCons (fun ρ => ((aCons (fun _ => some (D.int 2)) (fun _ => some [])) ρ).map D.lst) (aCons (fun ρ => vget ρ 3) (fun _ => some []))) ρ).map D.tup) (aCons (fun ρ => ((aCons (fun ρ => vget ρ 2) (aCons (fun _ => some D.non) (fun _ => some []))) ρ).map D.tup) (aCons (fun _ => some (D.int 7)) (aCons (fun _ => some (D.str "dance")) (fun _ => some [])))))))) ρ).map D.lst) catL) ρ).map D.lst)) (sq (sFor (iL (fun ρ => ((b2F (fun ρ => rget ρ 7) (fun ρ => ((aCons (fun ρ => ((aCons (fun ρ => vget ρ 2) (aCons (fun ρ => ((fun _ => some []) ρ).map D.tup) (fun _ => some []))) ρ).map D.tup) (fun _ => some [])) ρ).map D.lst) catL) ρ).map D.lst)) (gN 6) B_law_2) (sq (sIf (bB (b2 (fun ρ => ((aCons (fun ρ => ((aCons (fun ρ => vget ρ 2) (aCons (b2 (fun ρ => ((aCons (fun ρ => ((aCons (fun _ => some (D.str "end")) (fun _ => some [])) ρ).map D.tup) (fun _ => some [])) ρ).map D.tup) (fun _ => some (D.int 40)) mulT) (fun _ => some []))) ρ).map D.tup) (fun _ => some [])) ρ).bind m_is_dance) (fun _ => some (D.bl true)) isnO)) (sRet (fun _ => some (D.bl false))) (fun ρ => some (Out.nx ρ))) (sRet (b2 (fun ρ => ((aCons (fun ρ => ((aCons (fun ρ => vget ρ 2) (aCons (b1 (fun ρ => ((sComp 1 (iR1 (aCons (fun _ => some (D.int 41)) (fun _ => some []))) (gN 8) (fun _ => some true) (fun ρ => ((aCons (fun _ => some (D.str "end")) (fun _ => some [])) ρ).map D.tup)) ρ).map D.lst) tupO) (fun _ => some []))) ρ).map D.tup) (fun _ => some [])) ρ).bind m_is_dance) (fun _ => some (D.bl false)) isO))))))))))
def m_law (ds : List D) : Option D := runD n_law F_law ds
end K01

set_option Elab.async false
set_option linter.all false
set_option maxRecDepth 100000
set_option maxHeartbeats 8000000
namespace K01
open PySem L2 RD LG
theorem cut_take (l : List D) (k : Nat) (h : k ≤ l.length) : cutD l none (some (k : Int)) = l.take k := by
  have : ¬ ((k : Int) < 0) := by omega
  simp [cutD, HT.sIx, this, Nat.min_eq_left h]
theorem cut_drop (l : List D) (k : Nat) (h : k ≤ l.length) : cutD l (some (k : Int)) none = l.drop k := by
  have : ¬ ((k : Int) < 0) := by omega
  simp only [cutD, HT.sIx, this, if_false, Int.toNat_natCast, Nat.min_eq_left h]
  rw [List.take_of_length_le (by simp)]
theorem word_true {w : Str} (h : okW w) : wordB (.str w) = true := by
  obtain ⟨h1, h2, h3⟩ := h
  simp only [wordB, h1, h2, decide_true, Bool.true_and, List.all_eq_true, Bool.and_eq_true, decide_eq_true_eq]
  exact h3
theorem sz_word {w : Str} (h : okW w) : szD (.str w) := fun x e => by cases e; have := h.2.1; omega
theorem rise_true : ∀ {ch : List (Str × Int)}, Rising (ch.map (·.1)) → riseB (ch.map chD) = true
  | [], _ => rfl
  | [_], _ => rfl
  | a :: b :: l, h => by
    simp only [List.map_cons] at h
    obtain ⟨h1, h2⟩ := List.pairwise_cons.mp h
    have ih := rise_true (ch := b :: l) (by simpa using h2)
    simp only [List.map_cons] at ih ⊢
    simp only [riseB, ih, Bool.and_true]
    exact h1 b.1 (by simp)
theorem choices_true {m n a b : Int} {ch : List (Str × Int)} (h : okT m (fun x => 0 ≤ x ∧ x < n) a b ch) : choicesB (.tup (ch.map chD)) n = true := by
  simp only [choicesB, List.length_map, h.l0, h.l1, decide_true, Bool.true_and, rise_true h.rs, Bool.and_true, List.all_map, List.all_eq_true]
  intro q hq
  have := h.nx q hq
  simp [choiceB, chD, word_true (h.wd q hq), belowB, this.1, this.2]
theorem place_true {m n : Int} {p : Pl} (h : okP m (fun x => 0 ≤ x ∧ x < n) p) : placeB (plD p) m n = true := by
  cases p with
  | fin => simp [placeB, plD, endD, eqD, eqL]
  | tell a b ch =>
    have e : eqD (.int a) (.int b) = false := by unfold eqD; simpa using h.ne
    simp [placeB, plD, belowB, h.a0, h.a1, h.b0, h.b1, e, choices_true h, show eqD (.str "tell") (.str "tell") = true from eqD_self _]
theorem sz_ch {m : Int} {P : Int → Prop} {a b : Int} {ch : List (Str × Int)} (h : okT m P a b ch) : szCs (.tup (ch.map chD)) := fun xs e => by
  cases e
  intro e he
  obtain ⟨q, hq, rfl⟩ := List.mem_map.mp he
  intro a b e
  simp only [chD, D.tup.injEq, List.cons.injEq] at e
  rw [← e.1]
  exact sz_word (h.wd q hq)
theorem sz_pl {m : Int} {P : Int → Prop} {p : Pl} (h : okP m P p) : szP (plD p) := by
  cases p with
  | fin => intro k a b c e; simp [plD] at e
  | tell a b ch =>
    intro k a' b' c e
    simp only [plD, D.tup.injEq, List.cons.injEq] at e
    rw [← e.2.2.2.1]
    exact sz_ch h
/-! a bad place -/
def Bad (m n : Int) (d : D) : Prop := placeB d m n = false ∧ szP d
theorem bad_short {m n : Int} {xs : List D} (h : ∀ k a b c, xs ≠ [k, a, b, c]) (e : eqD (.tup xs) endD = false) : Bad m n (.tup xs) := by
  refine ⟨?_, fun k a b c q => absurd (by cases q; rfl) (h k a b c)⟩
  unfold placeB
  rw [e]
  simp only [Bool.false_or]
  split
  · rename_i k a b c q
    cases q
    exact absurd rfl (h k a b c)
  · rfl
theorem bad_other {m n : Int} {d : D} (h : ∀ xs, d ≠ .tup xs) : Bad m n d := by
  cases d with
  | tup xs => exact absurd rfl (h xs)
  | _ => exact ⟨by simp [placeB, endD, eqD], fun k a b c q => by cases q⟩
theorem eq4 (k a b c : D) : eqD (.tup [k, a, b, c]) endD = false := by simp [endD, eqD, eqL]
theorem bad_4 {m n : Int} {k a b c : D} (hs : szCs c) (h : (eqD k (.str "tell") && belowB a m && belowB b m && !eqD a b && choicesB c n) = false) : Bad m n (.tup [k, a, b, c]) := by
  refine ⟨?_, fun k' a' b' c' q => ?_⟩
  · unfold placeB
    rw [eq4]
    simpa using h
  · simp only [D.tup.injEq, List.cons.injEq] at q
    rw [← q.2.2.2.1]
    exact hs
theorem bad_row {m n : Int} {k a b c : D} (hs : szCs c) (h : choicesB c n = false) : Bad m n (.tup [k, a, b, c]) := bad_4 hs (by rw [h, Bool.and_false])
theorem sz_nt {d : D} (h : ∀ xs, d ≠ .tup xs) : szCs d := fun xs e => absurd e (h xs)
theorem sz_1 {e : D} (h : szC e) : szCs (.tup [e]) := fun xs q => by
  cases q
  intro e' he
  simp at he
  subst he
  exact h
theorem szC_of {a b : D} (h : szD a) : szC (.tup [a, b]) := fun a' b' e => by
  simp only [D.tup.injEq, List.cons.injEq] at e
  rw [← e.1]
  exact h
theorem szD_ns {d : D} (h : ∀ x, d ≠ .str x) : szD d := fun x e => absurd e (h x)
theorem szD_lit {x : Str} (h : decide (x.length ≤ 1000000) = true) : szD (.str x) := fun y e => by cases e; exact of_decide_eq_true h
theorem w_empty : wordB (.str "") = false := by decide +kernel
theorem w_abcd : wordB (.str "abcd") = false := by decide +kernel
theorem w_A : wordB (.str "A") = false := by decide +kernel
theorem lt_ba : ltS "b" "a" = false := by decide +kernel
theorem e_say : eqD (.str "say") (.str "tell") = false := by unfold eqD; decide +kernel
theorem lt_self (w : Str) : ltS w w = false := by
  cases q : ltS w w with
  | false => rfl
  | true => exact absurd q (by intro z; exact Lt.irrefl (a := w) z)
def items (m n a b : Int) (ch : List (Str × Int)) (w : Str) (x : Int) : List D :=
  let C : D := .tup (ch.map chD)
  let T : D := .str "tell"
  let row : D → D := fun r => .tup [T, .int a, .int b, r]
  [.tup [T, .int a, .int b], .tup [T, .int a, .int a, C], .tup [T, .int m, .int b, C], .tup [T, .int a, .int (-1), C],
   .tup [.str "say", .int a, .int b, C], .lst [T, .int a, .int b, C], .tup [.str "end", .int a], .str "end", .non, .tup [], .tup [T, .bl true, .int 0, C],
   .tup [T, .non, .int b, C], .tup [T, .str "0", .int b, C], .tup [T, .int a, .tup [.int 1], C],
   row (.tup []), row (.lst (ch.map chD)), row (.tup [.tup [.str w, .int n]]), row (.tup [.tup [.str "", .int x]]), row (.tup [.tup [.str w]]), row (.tup [.tup [.str "abcd", .int x]]), row (.tup [.tup [.str "A", .int x]]),
   row (.tup [.tup [.str w, .int x], .tup [.str w, .int x]]), row (.tup [.tup [.str w, .non]]), row (.tup [.tup [.str "b", .int x], .tup [.str "a", .int x]]), row (.tup [.tup [.str w, .bl true]]),
   row (.tup [.tup [.str "a", .int x], .tup [.str "b", .int x], .tup [.str "c", .int x], .tup [.str "d", .int x]]), row (.tup [.tup [.int 5, .int x]]), row (.tup [.tup [.non, .int x]]),
   row (.tup [.tup [.bl true, .int x]]), row (.tup [.tup [.tup [.str "a"], .int x]]), row (.tup [.tup [.lst [.str "a"], .int x]]), row (.tup [.lst [.str w, .int x]]), row (.tup [.tup [.str w, .int (-1)]]), row .non, row (.str "a")]
theorem items_eval {m n a b c x : Int} {w : Str} {ch : List (Str × Int)} : m_law_bad_place [plD (.tell a b ((w, x) :: ch)), .int m, .int n, .int c] = atI (items m n a b ((w, x) :: ch) w x) (c % 35) := by
  simp only [plD, items, List.map_cons, chD]
  simp (config := { decide := true }) only [m_law_bad_place, F_law_bad_place, runD, sRet, sq, sIf, bB, b1, b2, b3, b1F, b2F, b3S, vget, rget, gL, gM, vAnd, vOr, vNot, bAnd, bOr, bNot, bTru, truD, asB, asI, oI, aCons, sSet, sSetL, sAsg, gN, gNl, gCs, gT, sFor, forD, sWhile, sComp, compL, iL, iT, iR1, iR2, iEn, enumF, asL, asT, rng, RD.inR, sApp, sSetIx, frz, addO, subO, mulO, modO, fdivO, negO, ixO, lenO, tupO, lstO, intO, eqO, neO, dep, depL, eqD, eqL, ltO, leO, gtO, geO, isO, isnO, catL, dIn, dGet, sDict, sSetM, sDnew, sDput, allO, anyO, isiO, mulT, iS, asS, slD, slF, cutD, Option.bind_some, Option.bind_none, Option.map_some, Option.map_none, List.getElem?_cons_zero, List.getElem?_cons_succ, List.getElem?_nil, List.set_cons_zero, List.set_cons_succ, List.length_cons, List.length_nil, List.map_cons, List.map_nil, List.cons_append, List.nil_append, List.append_nil, List.replicate_succ, List.replicate_zero, Nat.reduceAdd, Nat.reduceSub, Nat.reduceLeDiff, Nat.reduceLT, if_true, if_false, ite_true, ite_false, true_and, and_true, Bool.false_eq_true, decide_true, decide_false, Bool.not_true, Bool.not_false, List.range_zero, Int.toNat_zero, List.length_map, List.length_append, List.length_replicate, Nat.zero_add, Int.zero_add, reduceIte, reduceCtorEq, Int.reduceLT, Int.reduceLE, Int.reducePow, Int.reduceNeg, Int.reduceMul, Int.reduceAdd, Int.reduceSub, Int.reduceToNat, true_or, or_true, and_self, or_self, Bool.and_self, Bool.true_and, Bool.and_true, Bool.true_or, Bool.or_true, Bool.false_and, Bool.false_or, Nat.reduceMul, Nat.reducePow, Int.reduceEq, Nat.reduceEqDiff, Int.natCast_zero, Int.cast_ofNat_Int, Int.ofNat_eq_natCast, at0]
  generalize atI _ (c % 35) = z
  cases z <;> rfl
theorem sz_two {p q : D} (h : szC p) (k : szC q) : szCs (.tup [p, q]) := fun xs e => by
  cases e
  intro e' he
  simp at he
  rcases he with rfl | rfl
  · exact h
  · exact k
theorem sz_four {p q r s : D} (h : szC p) (k : szC q) (h' : szC r) (k' : szC s) : szCs (.tup [p, q, r, s]) := fun xs e => by
  cases e
  intro e' he
  simp at he
  rcases he with rfl | rfl | rfl | rfl
  · exact h
  · exact k
  · exact h'
  · exact k'
theorem szC_nt {d : D} (h : ∀ a b, d ≠ .tup [a, b]) : szC d := fun a b e => absurd e (h a b)
theorem Forall_cons {P : D → Prop} {d : D} {l : List D} (h : P d) (k : ∀ e ∈ l, P e) : ∀ e ∈ d :: l, P e := fun e he => by
  rcases List.mem_cons.mp he with rfl | he
  · exact h
  · exact k e he
theorem items_bad {m n a b x : Int} {w : Str} {ch : List (Str × Int)} (k : okT m (fun y => 0 ≤ y ∧ y < n) a b ((w, x) :: ch)) : ∀ d ∈ items m n a b ((w, x) :: ch) w x, Bad m n d := by
  have sC := sz_ch k
  have hw := sz_word (k.wd (w, x) (by simp))
  have one : ∀ {e : D}, szC e → choiceB e n = false → Bad m n (.tup [.str "tell", .int a, .int b, .tup [e]]) := fun {e} h1 h2 => bad_row (sz_1 h1) (by simp [choicesB, h2])
  unfold items
  refine Forall_cons (bad_short (by intros; simp) (by simp [endD, eqD, eqL])) ?_
  refine Forall_cons (bad_4 sC (by rw [eqD_self (.int a)]; simp)) ?_
  refine Forall_cons (bad_4 sC (by simp [belowB])) ?_
  refine Forall_cons (bad_4 sC (by simp [belowB])) ?_
  refine Forall_cons (bad_4 sC (by rw [e_say]; rfl)) ?_
  refine Forall_cons (bad_other (by intro xs; simp)) ?_
  refine Forall_cons (bad_short (by intros; simp) (by simp [endD, eqD, eqL])) ?_
  refine Forall_cons (bad_other (by intro xs; simp)) ?_
  refine Forall_cons (bad_other (by intro xs; simp)) ?_
  refine Forall_cons (bad_short (by intros; simp) (by simp [endD, eqD, eqL])) ?_
  refine Forall_cons (bad_4 sC (by simp [belowB])) ?_
  refine Forall_cons (bad_4 sC (by simp [belowB])) ?_
  refine Forall_cons (bad_4 sC (by simp [belowB])) ?_
  refine Forall_cons (bad_4 sC (by simp [belowB])) ?_
  refine Forall_cons (bad_row (fun xs e => by cases e; intro e he; simp at he) (by simp [choicesB])) ?_
  refine Forall_cons (bad_row (sz_nt (by intro xs; simp)) rfl) ?_
  refine Forall_cons (one (szC_of hw) (by simp [choiceB, belowB])) ?_
  refine Forall_cons (one (szC_of (szD_lit (by decide +kernel))) (by simp [choiceB, w_empty])) ?_
  refine Forall_cons (one (szC_nt (by intros; simp)) rfl) ?_
  refine Forall_cons (one (szC_of (szD_lit (by decide +kernel))) (by simp [choiceB, w_abcd])) ?_
  refine Forall_cons (one (szC_of (szD_lit (by decide +kernel))) (by simp [choiceB, w_A])) ?_
  refine Forall_cons (bad_row (sz_two (szC_of hw) (szC_of hw)) (by simp [choicesB, riseB, ltB, lt_self])) ?_
  refine Forall_cons (one (szC_of hw) (by simp [choiceB, belowB])) ?_
  refine Forall_cons (bad_row (sz_two (szC_of (szD_lit (by decide +kernel))) (szC_of (szD_lit (by decide +kernel)))) (by simp [choicesB, riseB, ltB, lt_ba])) ?_
  refine Forall_cons (one (szC_of hw) (by simp [choiceB, belowB])) ?_
  refine Forall_cons (bad_row (sz_four (szC_of (szD_lit (by decide +kernel))) (szC_of (szD_lit (by decide +kernel))) (szC_of (szD_lit (by decide +kernel))) (szC_of (szD_lit (by decide +kernel)))) (by simp [choicesB])) ?_
  refine Forall_cons (one (szC_of (szD_ns (by intro x; simp))) (by simp [choiceB, wordB])) ?_
  refine Forall_cons (one (szC_of (szD_ns (by intro x; simp))) (by simp [choiceB, wordB])) ?_
  refine Forall_cons (one (szC_of (szD_ns (by intro x; simp))) (by simp [choiceB, wordB])) ?_
  refine Forall_cons (one (szC_of (szD_ns (by intro x; simp))) (by simp [choiceB, wordB])) ?_
  refine Forall_cons (one (szC_of (szD_ns (by intro x; simp))) (by simp [choiceB, wordB])) ?_
  refine Forall_cons (one (szC_nt (by intros; simp)) rfl) ?_
  refine Forall_cons (one (szC_of hw) (by simp [choiceB, belowB])) ?_
  refine Forall_cons (bad_row (sz_nt (by intro xs; simp)) rfl) ?_
  refine Forall_cons (bad_row (sz_nt (by intro xs; simp)) rfl) ?_
  intro e he
  simp at he
theorem in_range {α : Type} {l : List α} {i : Int} (h0 : 0 ≤ i) (h1 : i < (l.length : Int)) : ∃ x, x ∈ l ∧ atI l i = some x := by
  have h2 : i.toNat < l.length := by omega
  exact ⟨l[i.toNat], List.getElem_mem _, by simp [atI, ixN, h0, h1, h2]⟩
/-- a place spoilt -/
theorem spoilt_no {m : Int} {ps : List Pl} (h : Dance m ps) {rows : List Pl} (hr : ps = rows ++ [.fin]) (hl : 1 ≤ rows.length) (hf : ∀ p ∈ rows, p ≠ .fin) (c : Int) {s0 s5 s6 s7 : Sl} :
    ∃ s5' s6', (gN 4 (.int c) [s0, .v (dnD m ps), .v (.int m), .v (.tup (ps.map plD)), .v (.int 0), s5, s6, s7]).bind B_law_1 = some (.nx [s0, .v (dnD m ps), .v (.int m), .v (.tup (ps.map plD)), .v (.int c), s5', s6', s7]) := by
  have hlen : ps.length = rows.length + 1 := by rw [hr]; simp
  have hp : (0 : Int) < (ps.length : Int) - 1 := by omega
  have a0 : 0 ≤ c % ((ps.length : Int) - 1) := Int.emod_nonneg _ (by omega)
  have a1 : c % ((ps.length : Int) - 1) < (ps.length : Int) - 1 := Int.emod_lt_of_pos _ hp
  obtain ⟨k, hk⟩ : ∃ k : Nat, c % ((ps.length : Int) - 1) = (k : Int) := ⟨(c % ((ps.length : Int) - 1)).toNat, by omega⟩
  have kl : k < rows.length := by omega
  obtain ⟨p, hp1, e1, e2⟩ := at_pl (ps := ps) (n := (k : Int)) (by omega) (by omega)
  have pr : p = rows[k] := by
    rw [hr] at e1
    simp [List.getElem?_append_left kl, kl] at e1
    exact e1.symm
  have pf : p ≠ .fin := by rw [pr]; exact hf _ (List.getElem_mem kl)
  have ok := h.ok p hp1
  cases p with
  | fin => exact absurd rfl pf
  | tell a b ch =>
    obtain ⟨⟨w, x⟩, ch', rfl⟩ : ∃ q ch', ch = q :: ch' := by
      have := ok.l0
      cases ch with
      | nil => simp at this
      | cons q l => exact ⟨q, l, rfl⟩
    obtain ⟨bad, hb, e3⟩ := in_range (l := items m (ps.length : Int) a b ((w, x) :: ch') w x) (i := c / 64 % 35) (Int.emod_nonneg _ (by decide)) (Int.emod_lt_of_pos _ (by decide))
    have hbad := items_bad ok bad hb
    have e4 := items_eval (m := m) (n := (ps.length : Int)) (a := a) (b := b) (c := c / 64) (x := x) (w := w) (ch := ch')
    rw [e3] at e4
    have hps := h.n1
    have c1 := cut_take (ps.map plD) k (by simp; omega)
    have c2 := cut_drop (ps.map plD) (k + 1) (by simp; omega)
    have c2' : cutD (ps.map plD) (some ((k : Int) + 1)) none = (ps.map plD).drop (k + 1) := by rw [← c2]; rfl
    have t1b : min k ps.length ≤ 999999 := by omega
    have t2b : min k ps.length + 1 + (ps.length - (k + 1)) ≤ 1000000 := by omega
    have L : ((ps.map plD).take k ++ bad :: (ps.map plD).drop (k + 1)).length = ps.length := by simp; omega
    have no : m_is_dance [.tup [.int m, .tup ((ps.map plD).take k ++ bad :: (ps.map plD).drop (k + 1))]] = some (.bl false) := by
      rw [m_dance2]
      · congr 2
        have f : ((ps.map plD).take k ++ bad :: (ps.map plD).drop (k + 1)).all (placeB · m (((ps.map plD).take k ++ bad :: (ps.map plD).drop (k + 1)).length : Int)) = false := by
          rw [L]
          simp only [List.all_append, List.all_cons, hbad.1, Bool.false_and, Bool.and_false]
        simp only [danceB, f, Bool.and_false]
      · intro xs e d hd
        cases e
        rcases List.mem_append.mp hd with hd | hd
        · obtain ⟨q, hq, rfl⟩ := List.mem_map.mp (List.mem_of_mem_take hd)
          exact sz_pl (h.ok q hq)
        · rcases List.mem_cons.mp hd with rfl | hd
          · exact hbad.2
          · obtain ⟨q, hq, rfl⟩ := List.mem_map.mp (List.mem_of_mem_drop hd)
            exact sz_pl (h.ok q hq)
    refine ⟨.v (.int (k : Int)), .v bad, ?_⟩
    simp (config := { decide := true }) only [B_law_1, runD, sRet, sq, sIf, bB, b1, b2, b3, b1F, b2F, b3S, vget, rget, gL, gM, vAnd, vOr, vNot, bAnd, bOr, bNot, bTru, truD, asB, asI, oI, aCons, sSet, sSetL, sAsg, gN, gNl, gCs, gT, sFor, forD, sWhile, sComp, compL, iL, iT, iR1, iR2, iEn, enumF, asL, asT, rng, RD.inR, sApp, sSetIx, frz, addO, subO, mulO, modO, fdivO, negO, ixO, lenO, tupO, lstO, intO, eqO, neO, dep, depL, eqD, eqL, ltO, leO, gtO, geO, isO, isnO, catL, dIn, dGet, sDict, sSetM, sDnew, sDput, allO, anyO, isiO, mulT, iS, asS, slD, slF, Option.bind_some, Option.bind_none, Option.map_some, Option.map_none, List.getElem?_cons_zero, List.getElem?_cons_succ, List.getElem?_nil, List.set_cons_zero, List.set_cons_succ, List.length_cons, List.length_nil, List.map_cons, List.map_nil, List.cons_append, List.nil_append, List.append_nil, List.replicate_succ, List.replicate_zero, Nat.reduceAdd, Nat.reduceSub, Nat.reduceLeDiff, Nat.reduceLT, if_true, if_false, ite_true, ite_false, true_and, and_true, Bool.false_eq_true, decide_true, decide_false, Bool.not_true, Bool.not_false, List.range_zero, Int.toNat_zero, List.length_map, List.length_append, List.length_replicate, Nat.zero_add, Int.zero_add, reduceIte, reduceCtorEq, Int.reduceLT, Int.reduceLE, Int.reducePow, Int.reduceNeg, Int.reduceMul, Int.reduceAdd, Int.reduceSub, Int.reduceToNat, true_or, or_true, and_self, or_self, Bool.and_self, Bool.true_and, Bool.and_true, Bool.true_or, Bool.or_true, Bool.false_and, Bool.false_or, Nat.reduceMul, Nat.reducePow, Int.reduceEq, Nat.reduceEqDiff, Int.natCast_zero, Int.cast_ofNat_Int, Int.ofNat_eq_natCast, hp, hk, e2, e4, c1, c2', t1b, t2b, List.length_take, List.length_drop, List.append_assoc, List.singleton_append, no]
theorem places_true {m : Int} {ps : List Pl} (h : Dance m ps) : m_is_dance [dnD m ps] = some (.bl true) := by
  unfold dnD
  rw [m_dance2]
  · congr 2
    have h0 := h.m0; have h1 := h.m1; have h2 := h.n0; have h3 := h.n1
    simp only [danceB, List.length_map, h0, h1, h2, h3, decide_true, Bool.true_and, List.all_map, List.all_eq_true]
    intro q hq
    exact place_true (h.ok q hq)
  · intro xs e d hd
    cases e
    obtain ⟨q, hq, rfl⟩ := List.mem_map.mp hd
    exact sz_pl (h.ok q hq)
theorem szP_end : szP endD := by intro k a b c e; simp [endD] at e
theorem place_end (m n : Int) : placeB endD m n = true := by simp [placeB, eqD_self]
theorem ends {m : Int} (h0 : 2 ≤ m) (h1 : m ≤ 4) (k : Nat) : m_is_dance [.tup [.int m, .tup (List.replicate k endD)]] = some (.bl (decide (1 ≤ k) && decide (k ≤ 40))) := by
  rw [m_dance2]
  · congr 2
    have : (List.replicate k endD).all (placeB · m (k : Int)) = true := by
      rw [List.all_eq_true]
      intro d hd
      rw [(List.mem_replicate.mp hd).2]
      exact place_end _ _
    simp only [danceB, List.length_replicate, h0, h1, decide_true, Bool.true_and, this, Bool.and_true]
  · intro xs e d hd
    cases e
    rw [(List.mem_replicate.mp hd).2]
    exact szP_end
theorem turn {m : Int} {ps : List Pl} (h : Dance m ps) {rows : List Pl} (hr : ps = rows ++ [.fin]) (hl : 1 ≤ rows.length) (hf : ∀ p ∈ rows, p ≠ .fin) (c : Int) {s0 s4 s5 s6 s7 : Sl} :
    ∃ s5' s6', (gN 4 (.int c) [s0, .v (dnD m ps), .v (.int m), .v (.tup (ps.map plD)), s4, s5, s6, s7]).bind B_law_1 = some (.nx [s0, .v (dnD m ps), .v (.int m), .v (.tup (ps.map plD)), .v (.int c), s5', s6', s7]) := spoilt_no h hr hl hf c
theorem no2 (a b : D) (h : danceB a b = false) (k : ∀ xs, b = .tup xs → ∀ d ∈ xs, szP d) : m_is_dance [.tup [a, b]] = some (.bl false) := by rw [m_dance2 a b k, h]
def things (m : Int) (P : List D) : List D := [.tup [.int 1, .tup P], .tup [.int 5, .tup P], .tup [.bl true, .tup P], .tup [.int m], .lst [.int m, .tup P], .tup [.int m, .lst P], .non,
  .tup [.non, .tup P], .tup [.str "2", .tup P], .tup [.tup [.int 2], .tup P], .tup [.lst [.int 2], .tup P], .tup [.int m, .non], .int 7, .str "dance", .tup [.int m, .tup []]]
theorem things_no {m : Int} {P : List D} (hP : ∀ d ∈ P, szP d) : ∀ d ∈ things m P, m_is_dance [d] = some (.bl false) := by
  have sP : ∀ xs, D.tup P = .tup xs → ∀ d ∈ xs, szP d := fun xs e => by cases e; exact hP
  have s0 : ∀ {d : D}, (∀ xs, d ≠ .tup xs) → ∀ xs, d = .tup xs → ∀ e ∈ xs, szP e := fun h xs e => absurd e (h xs)
  have nt : ∀ d : D, isiB "tuple" d = false → m_is_dance [d] = some (.bl false) := fun d hd => by
    simp (config := { decide := true }) only [m_is_dance, F_is_dance, runD, sRet, sq, sIf, bB, b1, b2, b3, b1F, b2F, b3S, vget, rget, gL, gM, vAnd, vOr, vNot, bAnd, bOr, bNot, bTru, truD, asB, asI, oI, aCons, sSet, sSetL, sAsg, gN, gNl, gCs, gT, sFor, forD, sWhile, sComp, compL, iL, iT, iR1, iR2, iEn, enumF, asL, asT, rng, RD.inR, sApp, sSetIx, frz, addO, subO, mulO, modO, fdivO, negO, ixO, lenO, tupO, lstO, intO, eqO, neO, dep, depL, eqD, eqL, ltO, leO, gtO, geO, isO, isnO, catL, dIn, dGet, sDict, sSetM, sDnew, sDput, allO, anyO, isiO, mulT, iS, asS, slD, slF, cutD, Option.bind_some, Option.bind_none, Option.map_some, Option.map_none, List.getElem?_cons_zero, List.getElem?_cons_succ, List.getElem?_nil, List.set_cons_zero, List.set_cons_succ, List.length_cons, List.length_nil, List.map_cons, List.map_nil, List.cons_append, List.nil_append, List.append_nil, List.replicate_succ, List.replicate_zero, Nat.reduceAdd, Nat.reduceSub, Nat.reduceLeDiff, Nat.reduceLT, if_true, if_false, ite_true, ite_false, true_and, and_true, Bool.false_eq_true, decide_true, decide_false, Bool.not_true, Bool.not_false, List.range_zero, Int.toNat_zero, List.length_map, List.length_append, List.length_replicate, Nat.zero_add, Int.zero_add, reduceIte, reduceCtorEq, Int.reduceLT, Int.reduceLE, Int.reducePow, Int.reduceNeg, Int.reduceMul, Int.reduceAdd, Int.reduceSub, Int.reduceToNat, true_or, or_true, and_self, or_self, Bool.and_self, Bool.true_and, Bool.and_true, Bool.true_or, Bool.or_true, Bool.false_and, Bool.false_or, Nat.reduceMul, Nat.reducePow, Int.reduceEq, Nat.reduceEqDiff, Int.natCast_zero, Int.cast_ofNat_Int, Int.ofNat_eq_natCast, hd]
  unfold things
  refine Forall_cons (no2 _ _ (by simp [danceB]) sP) ?_
  refine Forall_cons (no2 _ _ (by simp [danceB]) sP) ?_
  refine Forall_cons (no2 _ _ (by simp [danceB]) sP) ?_
  refine Forall_cons (by simp (config := { decide := true }) only [m_is_dance, F_is_dance, runD, sRet, sq, sIf, bB, b1, b2, b3, b1F, b2F, b3S, vget, rget, gL, gM, vAnd, vOr, vNot, bAnd, bOr, bNot, bTru, truD, asB, asI, oI, aCons, sSet, sSetL, sAsg, gN, gNl, gCs, gT, sFor, forD, sWhile, sComp, compL, iL, iT, iR1, iR2, iEn, enumF, asL, asT, rng, RD.inR, sApp, sSetIx, frz, addO, subO, mulO, modO, fdivO, negO, ixO, lenO, tupO, lstO, intO, eqO, neO, dep, depL, eqD, eqL, ltO, leO, gtO, geO, isO, isnO, catL, dIn, dGet, sDict, sSetM, sDnew, sDput, allO, anyO, isiO, mulT, iS, asS, slD, slF, cutD, Option.bind_some, Option.bind_none, Option.map_some, Option.map_none, List.getElem?_cons_zero, List.getElem?_cons_succ, List.getElem?_nil, List.set_cons_zero, List.set_cons_succ, List.length_cons, List.length_nil, List.map_cons, List.map_nil, List.cons_append, List.nil_append, List.append_nil, List.replicate_succ, List.replicate_zero, Nat.reduceAdd, Nat.reduceSub, Nat.reduceLeDiff, Nat.reduceLT, if_true, if_false, ite_true, ite_false, true_and, and_true, Bool.false_eq_true, decide_true, decide_false, Bool.not_true, Bool.not_false, List.range_zero, Int.toNat_zero, List.length_map, List.length_append, List.length_replicate, Nat.zero_add, Int.zero_add, reduceIte, reduceCtorEq, Int.reduceLT, Int.reduceLE, Int.reducePow, Int.reduceNeg, Int.reduceMul, Int.reduceAdd, Int.reduceSub, Int.reduceToNat, true_or, or_true, and_self, or_self, Bool.and_self, Bool.true_and, Bool.and_true, Bool.true_or, Bool.or_true, Bool.false_and, Bool.false_or, Nat.reduceMul, Nat.reducePow, Int.reduceEq, Nat.reduceEqDiff, Int.natCast_zero, Int.cast_ofNat_Int, Int.ofNat_eq_natCast, isiB, tyD, Int.reduceBEq, Int.natCast_one]) ?_
  refine Forall_cons (nt _ rfl) ?_
  refine Forall_cons (no2 _ _ (by simp [danceB]) (s0 (by intro xs; simp))) ?_
  refine Forall_cons (nt _ rfl) ?_
  refine Forall_cons (no2 _ _ (by simp [danceB]) sP) ?_
  refine Forall_cons (no2 _ _ (by simp [danceB]) sP) ?_
  refine Forall_cons (no2 _ _ (by simp [danceB]) sP) ?_
  refine Forall_cons (no2 _ _ (by simp [danceB]) sP) ?_
  refine Forall_cons (no2 _ _ (by simp [danceB]) (s0 (by intro xs; simp))) ?_
  refine Forall_cons (nt _ rfl) ?_
  refine Forall_cons (nt _ rfl) ?_
  refine Forall_cons (no2 _ _ (by simp [danceB]) (fun xs e => by cases e; intro d hd; simp at hd)) ?_
  intro e he
  simp at he
theorem rep_flat (k : Nat) : (List.replicate k [endD]).flatten = List.replicate k endD := by
  induction k with
  | zero => rfl
  | succ k ih => rw [List.replicate_succ, List.flatten_cons, ih, List.replicate_succ]; rfl
theorem law_is (ns : List Int) (hn : ns.length ≤ 63) : m_law [.lst (ns.map D.int)] = some (.bl true) := by
  obtain ⟨m, ps, e1, h, rows, hr, hl, hf⟩ := dance_is ns
  obtain ⟨cs, e3, l3, _⟩ := cut_map D.int ns (some 4) (some 12)
  have t1 := places_true h
  have t2 := ends h.m0 h.m1 1
  have t40 := ends h.m0 h.m1 40
  have t41 := ends h.m0 h.m1 41
  have hP : ∀ d ∈ ps.map plD, szP d := fun d hd => by
    obtain ⟨q, hq, rfl⟩ := List.mem_map.mp hd
    exact sz_pl (h.ok q hq)
  have th := things_no (m := m) hP
  have tk := things_no (m := m) hP
  obtain ⟨ρ1, e4, s4, s5, s6, rfl⟩ := forD_inv (g := gN 4) (F := B_law_1) (fun ρ => ∃ s4 s5 s6, ρ = [.v (.lst (ns.map D.int)), .v (dnD m ps), .v (.int m), .v (.tup (ps.map plD)), s4, s5, s6, .un]) (ds := cs.map D.int) (ρ := [.v (.lst (ns.map D.int)), .v (dnD m ps), .v (.int m), .v (.tup (ps.map plD)), .un, .un, .un, .un])
    (fun d hd ρ hρ => by
      obtain ⟨c, _, rfl⟩ := List.mem_map.mp hd
      obtain ⟨s4, s5, s6, rfl⟩ := hρ
      obtain ⟨a, b, e⟩ := turn h hr hl hf c (s0 := .v (.lst (ns.map D.int))) (s4 := s4) (s5 := s5) (s6 := s6) (s7 := .un)
      exact ⟨_, e, _, a, b, rfl⟩) ⟨_, _, _, rfl⟩
  have loop2 : ∀ s7 : Sl, ∃ s6', forD (gN 6) B_law_2 (things m (ps.map plD)) [.v (.lst (ns.map D.int)), .v (dnD m ps), .v (.int m), .v (.tup (ps.map plD)), s4, s5, s6, s7] = some (.nx [.v (.lst (ns.map D.int)), .v (dnD m ps), .v (.int m), .v (.tup (ps.map plD)), s4, s5, s6', s7]) := fun s7 => by
    obtain ⟨ρ2, e5, s6', rfl⟩ := forD_inv (g := gN 6) (F := B_law_2) (fun ρ => ∃ s6, ρ = [.v (.lst (ns.map D.int)), .v (dnD m ps), .v (.int m), .v (.tup (ps.map plD)), s4, s5, s6, s7]) (ds := things m (ps.map plD)) (ρ := [.v (.lst (ns.map D.int)), .v (dnD m ps), .v (.int m), .v (.tup (ps.map plD)), s4, s5, s6, s7])
      (fun d hd ρ hρ => by
        obtain ⟨s6, rfl⟩ := hρ
        refine ⟨_, ?_, .v d, rfl⟩
        simp (config := { decide := true }) only [B_law_2, runD, sRet, sq, sIf, bB, b1, b2, b3, b1F, b2F, b3S, vget, rget, gL, gM, vAnd, vOr, vNot, bAnd, bOr, bNot, bTru, truD, asB, asI, oI, aCons, sSet, sSetL, sAsg, gN, gNl, gCs, gT, sFor, forD, sWhile, sComp, compL, iL, iT, iR1, iR2, iEn, enumF, asL, asT, rng, RD.inR, sApp, sSetIx, frz, addO, subO, mulO, modO, fdivO, negO, ixO, lenO, tupO, lstO, intO, eqO, neO, dep, depL, eqD, eqL, ltO, leO, gtO, geO, isO, isnO, catL, dIn, dGet, sDict, sSetM, sDnew, sDput, allO, anyO, isiO, mulT, iS, asS, slD, slF, cutD, Option.bind_some, Option.bind_none, Option.map_some, Option.map_none, List.getElem?_cons_zero, List.getElem?_cons_succ, List.getElem?_nil, List.set_cons_zero, List.set_cons_succ, List.length_cons, List.length_nil, List.map_cons, List.map_nil, List.cons_append, List.nil_append, List.append_nil, List.replicate_succ, List.replicate_zero, Nat.reduceAdd, Nat.reduceSub, Nat.reduceLeDiff, Nat.reduceLT, if_true, if_false, ite_true, ite_false, true_and, and_true, Bool.false_eq_true, decide_true, decide_false, Bool.not_true, Bool.not_false, List.range_zero, Int.toNat_zero, List.length_map, List.length_append, List.length_replicate, Nat.zero_add, Int.zero_add, reduceIte, reduceCtorEq, Int.reduceLT, Int.reduceLE, Int.reducePow, Int.reduceNeg, Int.reduceMul, Int.reduceAdd, Int.reduceSub, Int.reduceToNat, true_or, or_true, and_self, or_self, Bool.and_self, Bool.true_and, Bool.and_true, Bool.true_or, Bool.or_true, Bool.false_and, Bool.false_or, Nat.reduceMul, Nat.reducePow, Int.reduceEq, Nat.reduceEqDiff, Int.natCast_zero, Int.cast_ofNat_Int, Int.ofNat_eq_natCast, th d hd]) ⟨_, rfl⟩
    exact ⟨s6', e5⟩
  obtain ⟨s6', e5⟩ := loop2 (.v (.lst [.tup [.int 1, .tup (ps.map plD)], .tup [.int 5, .tup (ps.map plD)], .tup [.bl true, .tup (ps.map plD)], .tup [.int m], .lst [.int m, .tup (ps.map plD)], .tup [.int m, .lst (ps.map plD)], .non,
    .tup [.non, .tup (ps.map plD)], .tup [.str "2", .tup (ps.map plD)], .tup [.tup [.int 2], .tup (ps.map plD)], .tup [.lst [.int 2], .tup (ps.map plD)], .tup [.int m, .non], .int 7, .str "dance"]))
  have cc : ∀ ρ : Rho, compL (gN 8) (fun _ => some true) (fun _ => some endD) (rng 0 41) ρ = some (List.replicate 41 endD) := fun ρ => by
    have := compL_filter (g := gN 8) (p := fun _ => some true) (f := fun _ => some endD) (emb := id) (ρ := ρ) (fun _ => true) (fun _ => endD) (rng 0 41) fun e he => ⟨_, rfl, rfl, fun _ => rfl⟩
    rw [List.filter_eq_self.mpr (by simp), List.map_id] at this
    rw [this]
    exact congrArg some (List.eq_replicate_iff.mpr ⟨by simp [rng], by simp⟩)
  have rl : (rng 0 41).length ≤ 1000000 := by simp [rng]
  simp only [things] at e5
  rw [List.replicate_one] at t2
  have hE : D.tup [D.str "end"] = endD := rfl
  have t2' : m_is_dance [.tup [.int m, .tup [endD]]] = some (.bl true) := t2
  obtain ⟨E40, mt, t40'⟩ : ∃ E, mulT (.tup [endD]) (.int 40) = some (.tup E) ∧ m_is_dance [.tup [.int m, .tup E]] = some (.bl true) := ⟨List.replicate 40 endD, congrArg (fun z => some (D.tup z)) (rep_flat 40), t40⟩
  obtain ⟨E41, cc, t41'⟩ : ∃ E, (∀ ρ : Rho, compL (gN 8) (fun _ => some true) (fun _ => some endD) (rng 0 41) ρ = some E) ∧ m_is_dance [.tup [.int m, .tup E]] = some (.bl false) := ⟨List.replicate 41 endD, cc, t41⟩
  clear t2 t40 t41 th tk loop2
  unfold m_law F_law
  simp only [dnD] at e1 e4 e5 t1
  simp (config := { decide := true }) only [runD, sRet, sq, sIf, bB, b1, b2, b3, b1F, b2F, b3S, vget, rget, gL, gM, vAnd, vOr, vNot, bAnd, bOr, bNot, bTru, truD, asB, asI, oI, aCons, sSet, sSetL, sAsg, gN, gNl, gCs, gT, sFor, sWhile, sComp, iL, iT, iR1, iR2, iEn, enumF, asL, asT, RD.inR, sApp, sSetIx, frz, addO, subO, mulO, modO, fdivO, negO, ixO, lenO, tupO, lstO, intO, eqO, neO, dep, depL, eqD, eqL, ltO, leO, gtO, geO, isO, isnO, catL, dIn, dGet, sDict, sSetM, sDnew, sDput, allO, anyO, isiO, iS, asS, slD, slF, Option.bind_some, Option.bind_none, Option.map_some, Option.map_none, List.getElem?_cons_zero, List.getElem?_cons_succ, List.getElem?_nil, List.set_cons_zero, List.set_cons_succ, List.length_cons, List.length_nil, List.map_cons, List.map_nil, List.cons_append, List.nil_append, List.append_nil, List.replicate_succ, List.replicate_zero, Nat.reduceAdd, Nat.reduceSub, Nat.reduceLeDiff, Nat.reduceLT, if_true, if_false, ite_true, ite_false, true_and, and_true, Bool.false_eq_true, decide_true, decide_false, Bool.not_true, Bool.not_false, List.range_zero, Int.toNat_zero, List.length_map, List.length_append, List.length_replicate, Nat.zero_add, Int.zero_add, reduceIte, reduceCtorEq, Int.reduceLT, Int.reduceLE, Int.reducePow, Int.reduceNeg, Int.reduceMul, Int.reduceAdd, Int.reduceSub, Int.reduceToNat, true_or, or_true, and_self, or_self, Bool.and_self, Bool.true_and, Bool.and_true, Bool.true_or, Bool.or_true, Bool.false_and, Bool.false_or, Nat.reduceMul, Nat.reducePow, Int.reduceEq, Nat.reduceEqDiff, Int.natCast_zero, Int.cast_ofNat_Int, Int.ofNat_eq_natCast, e1, t1, t2', e3, e4, e5, hE, cc, rl, mt, t40', t41']
  rfl
end K01

set_option Elab.async false
set_option linter.all false
set_option maxRecDepth 100000
set_option maxHeartbeats 4000000
namespace K01
open PySem PySem.Spec PyProof.Rows L2 RD LG
def top (i : Nat) : Stmt := PySem.Challenge.pw_reelhall_k01_dances.main.body.getD i (.Pass ⟨0, 0, 0, 0⟩)
structure Cs (mg : Str → Option Value) : Prop where
  FEWEST_DANCERS : ∃ t, mg "FEWEST_DANCERS" = some (.int 2 t)
  MOST_DANCERS : ∃ t, mg "MOST_DANCERS" = some (.int 4 t)
  MOST_PLACES : ∃ t, mg "MOST_PLACES" = some (.int 40 t)
  MOST_CHOICES : ∃ t, mg "MOST_CHOICES" = some (.int 3 t)
  LONGEST_WORD : ∃ t, mg "LONGEST_WORD" = some (.int 3 t)
section
variable {P : Program} {w : World} {K : PySem.W.Frag} {mg : Str → Option Value} {base : Heap}
abbrev s_law_mix : Stmt := top 15
theorem sc_law_mix : FnScope n_law_mix ["_law_cell_here", "_law_prime", "_law_many"] (defScope s_law_mix) := ⟨rfl, rfl, rfl, by decide +kernel, rfl, by decide +kernel, by decide +kernel⟩
theorem d_law_mix {fa : Addr}  (hT : Bl mg) (hC : Cs mg) (cdv : Value) (A : Around) (outer : List Env) (s : Shared) (H : Hp) (hr : Room 0 (A.deeper (envOfC "_law_mix" (defScope s_law_mix) s.heap.objs.size fa cdv))) :
    SSs (cxOf CX0 P w K mg base n_law_mix "_law_mix" (defScope s_law_mix) fa cdv A outer s H E0).nox (defBody s_law_mix) F_law_mix := by
  have hu := hu30 hr
  have hu1 := hu_of hr
  have hN := sc_law_mix.nd
  exact (ss_one (ss_ret (se_op op_modD (sr_of (se_op op_modD (sr_of (se_op op_mulD (sr_name 0 (pv 0)) (sr_of se_int))) (sr_name 1 (pv 1)))) (sr_name 2 (pv 2)))))
abbrev s_law_cell : Stmt := top 14
theorem sc_law_cell : FnScope n_law_cell ["_law_script", "_law_k"] (defScope s_law_cell) := ⟨rfl, rfl, rfl, by decide +kernel, rfl, by decide +kernel, by decide +kernel⟩
theorem d_law_cell {fa : Addr}  (hT : Bl mg) (hC : Cs mg) (cdv : Value) (A : Around) (outer : List Env) (s : Shared) (H : Hp) (hr : Room 0 (A.deeper (envOfC "_law_cell" (defScope s_law_cell) s.heap.objs.size fa cdv))) :
    SSs (cxOf CX0 P w K mg base n_law_cell "_law_cell" (defScope s_law_cell) fa cdv A outer s H E0).nox (defBody s_law_cell) F_law_cell := by
  have hu := hu30 hr
  have hu1 := hu_of hr
  have hN := sc_law_cell.nd
  exact (ss_cons (ss_if (sb_cmp (op_ltD) (sr_name 1 (pv 1)) (sr_of (se_call1 call_lenO (gl (by kernel_rfl)) hT.len PySem.boot_len (sr_name 0 (pv 0)))) (nomark _)) (ss_one (ss_ret (se_ix (sr_name 0 (pv 0)) (sr_name 1 (pv 1))))) ss_nil) (ss_one (ss_ret se_int)))
abbrev s_law_is_late : Stmt := top 17
theorem sc_law_is_late : FnScope n_law_is_late ["_law_cell_here", "_law_many"] (defScope s_law_is_late) := ⟨rfl, rfl, rfl, by decide +kernel, rfl, by decide +kernel, by decide +kernel⟩
theorem d_law_is_late {fa : Addr}  (hT : Bl mg) (hC : Cs mg) (cdv : Value) (A : Around) (outer : List Env) (s : Shared) (H : Hp) (hr : Room 0 (A.deeper (envOfC "_law_is_late" (defScope s_law_is_late) s.heap.objs.size fa cdv))) :
    SSs (cxOf CX0 P w K mg base n_law_is_late "_law_is_late" (defScope s_law_is_late) fa cdv A outer s H E0).nox (defBody s_law_is_late) F_law_is_late := by
  have hu := hu30 hr
  have hu1 := hu_of hr
  have hN := sc_law_is_late.nd
  exact (ss_one (ss_ret (se_and (se_cmp (op_eqD hu) (sr_of (se_op op_modD (sr_name 0 (pv 0)) (sr_of se_int))) (sr_of se_int) (nomark _)) (se_one (se_cmp (op_gtD) (sr_name 1 (pv 1)) (sr_of se_int) (nomark _))))))
abbrev s_law_told_late : Stmt := top 19
theorem sc_law_told_late : FnScope n_law_told_late ["_law_start", "_law_goals", "_law_one", "_law_others", "_law_words"] (defScope s_law_told_late) := ⟨rfl, rfl, rfl, by decide +kernel, rfl, by decide +kernel, by decide +kernel⟩
theorem d_law_told_late {fa : Addr}  (hT : Bl mg) (hC : Cs mg) (cdv : Value) (A : Around) (outer : List Env) (s : Shared) (H : Hp) (hr : Room 0 (A.deeper (envOfC "_law_told_late" (defScope s_law_told_late) s.heap.objs.size fa cdv))) :
    SSs (cxOf CX0 P w K mg base n_law_told_late "_law_told_late" (defScope s_law_told_late) fa cdv A outer s H E0).nox (defBody s_law_told_late) F_law_told_late := by
  have hu := hu30 hr
  have hu1 := hu_of hr
  have hN := sc_law_told_late.nd
  exact (ss_cons (ss_setL 5 (sf_lst sa_nil) hN (by kernel_rfl) (.inl (by kernel_rfl))) (ss_cons (ss_setL 6 (sf_lst sa_nil) hN (by kernel_rfl) (.inl (by kernel_rfl))) (ss_cons (ss_set 7 (se_call1 call_lenO (gl (by kernel_rfl)) hT.len PySem.boot_len (sr_name 3 (pv 3))) hN (by kernel_rfl) (.inl (by kernel_rfl))) (ss_cons (ss_for PassesOwn.never rfl (si_enum (gl (by kernel_rfl)) hT.enumerate (se_name 4 (pv 4))) (sg_tup rfl (sgs_cons (sg_name 8 hN (by kernel_rfl) (.inl (by kernel_rfl)) (.inl rfl)) (sgs_cons (sg_name 9 hN (by kernel_rfl) (.inl (by kernel_rfl)) (.inl rfl)) sgs_nil))) (ss_cons (ss_set 10 (se_op op_addD (sr_of (se_op op_addD (sr_name 0 (pv 0)) (sr_of se_int))) (sr_of (se_op op_mulD (sr_name 8 (pv 8)) (sr_name 7 (pv 7))))) hN (by kernel_rfl) (.inl (by kernel_rfl))) (ss_cons (ss_append 6 (pv 6) (se_tup (sa_cons (se_name 9 (pv 9)) (sa_cons (se_name 10 (pv 10)) sa_nil)))) (ss_cons (ss_append 5 (pv 5) (se_tup (sa_cons se_str (sa_cons (se_name 2 (pv 2)) (sa_cons (se_ix (sr_name 3 (pv 3)) (sr_of se_int)) (sa_cons (se_tup (sa_cons (se_tup (sa_cons (se_ix (sr_name 4 (pv 4)) (sr_of se_int)) (sa_cons (se_op op_addD (sr_name 10 (pv 10)) (sr_of se_int)) sa_nil))) sa_nil)) sa_nil)))))) (ss_one (ss_for PassesOwn.never rfl (si_range2 (gl (by kernel_rfl)) hT.range (sa_cons se_int (sa_cons (se_name 7 (pv 7)) sa_nil))) (sg_name 11 hN (by kernel_rfl) (.inl (by kernel_rfl)) (.inl rfl)) (ss_cons (ss_set 12 (se_ix (sr_of (se_of_sf (sf_lst (sa_cons (se_op op_addD (sr_of (se_op op_addD (sr_name 10 (pv 10)) (sr_name 11 (pv 11)))) (sr_of se_int)) (sa_cons (se_ix (sr_name 1 (pv 1)) (sr_name 8 (pv 8))) sa_nil))))) (sr_of (se_callT1 call_intO (gl (by kernel_rfl)) hT.int b_int (sr_of (se_cmp (op_eqD hu) (sr_name 11 (pv 11)) (sr_of (se_op op_subD (sr_name 7 (pv 7)) (sr_of se_int))) (nomark _)))))) hN (by kernel_rfl) (.inl (by kernel_rfl))) (ss_one (ss_append 5 (pv 5) (se_tup (sa_cons se_str (sa_cons (se_ix (sr_name 3 (pv 3)) (sr_of se_int)) (sa_cons (se_ix (sr_name 3 (pv 3)) (sr_name 11 (pv 11))) (sa_cons (se_tup (sa_cons (se_tup (sa_cons (se_name 9 (pv 9)) (sa_cons (se_name 12 (pv 12)) sa_nil))) sa_nil)) sa_nil)))))))))))))) (ss_one (ss_ret (se_of_sf (sf_cat (sr_of (se_of_sf (sf_lst (sa_cons (se_tup (sa_cons se_str (sa_cons (se_name 2 (pv 2)) (sa_cons (se_ix (sr_name 3 (pv 3)) (sr_of se_int)) (sa_cons (se_callT1 call_tupO (gl (by kernel_rfl)) hT.tuple b_tuple (sr_name 6 (pv 6))) sa_nil))))) sa_nil)))) (sr_name 5 (pv 5))))))))))
abbrev s_law_word : Stmt := top 16
theorem sc_law_word : FnScope n_law_word ["_law_cell_here", "_law_j"] (defScope s_law_word) := ⟨rfl, rfl, rfl, by decide +kernel, rfl, by decide +kernel, by decide +kernel⟩
theorem d_law_word {fa : Addr} (h_law_mix : DefOk P w K mg base 1 "_law_mix" 3 m_law_mix) (hT : Bl mg) (hC : Cs mg) (cdv : Value) (A : Around) (outer : List Env) (s : Shared) (H : Hp) (hr : Room 1 (A.deeper (envOfC "_law_word" (defScope s_law_word) s.heap.objs.size fa cdv))) :
    SSs (cxOf CX0 P w K mg base n_law_word "_law_word" (defScope s_law_word) fa cdv A outer s H E0).nox (defBody s_law_word) F_law_word := by
  have hu := hu30 hr
  have hu1 := hu_of hr
  have hN := sc_law_word.nd
  exact (ss_cons (ss_set 2 se_str hN (by kernel_rfl) (.inr (by kernel_rfl))) (ss_cons (ss_set 3 (se_ix (sr_name 2 (pv 2)) (sr_of (se_op op_modD (sr_of (se_op op_addD (sr_of (se_callD h_law_mix (hr.mono (by decide)) (by kernel_rfl) rfl (sa_cons (se_name 0 (pv 0)) (sa_cons se_int (sa_cons se_int sa_nil))))) (sr_of (se_op op_mulD (sr_of se_int) (sr_name 1 (pv 1)))))) (sr_of se_int)))) hN (by kernel_rfl) (.inl (by kernel_rfl))) (ss_cons (ss_set 4 (se_join (sr_of (se_of_sf (sf_comp (nm := ["_law_k"]) (m := 1) rfl rfl (by kernel_rfl) (by kernel_rfl) (si_range1 (gl (by kernel_rfl)) hT.range (sa_cons (se_callD h_law_mix (hr.mono (by decide)) (by kernel_rfl) rfl (sa_cons (se_name 0 (pv 0)) (sa_cons se_int (sa_cons se_int sa_nil)))) sa_nil)) (keeps_gN (show 6 ≤ 6 by decide)) (fun C s₃ H₃ ex => (sg_name 6 (nd_mask (nm := ["_law_k"]) (by kernel_rfl)) (by kernel_rfl) (.inl (by kernel_rfl)) (.inr (by kernel_rfl)))) (fun C s₃ H₃ ex => .inl ⟨rfl, rfl⟩) (fun C s₃ H₃ ex => (se_ix (sr_name 2 (pv 2)) (sr_of (se_callD h_law_mix (hr.mono (by decide)) (by kernel_rfl) rfl (sa_cons (se_op op_addD (sr_name 0 (pv 0)) (sr_of (se_op op_mulD (sr_of se_int) (sr_name 6 (pv 6))))) (sa_cons se_int (sa_cons se_int sa_nil))))))))))) hN (by kernel_rfl) (.inl (by kernel_rfl))) (ss_cons (ss_set 5 (se_callD h_law_mix (hr.mono (by decide)) (by kernel_rfl) rfl (sa_cons (se_name 0 (pv 0)) (sa_cons se_int (sa_cons (se_op op_addD (sr_of (se_call1 call_lenO (gl (by kernel_rfl)) hT.len PySem.boot_len (sr_name 4 (pv 4)))) (sr_of se_int)) sa_nil)))) hN (by kernel_rfl) (.inl (by kernel_rfl))) (ss_one (ss_ret (se_op op_addD (sr_of (se_op op_addD (sr_of (se_slice (sr_name 4 (pv 4)) so_none (so_some (se_name 5 (pv 5))))) (sr_name 3 (pv 3)))) (sr_of (se_slice (sr_name 4 (pv 4)) (so_some (se_name 5 (pv 5))) so_none)))))))))
abbrev s_law_told_on : Stmt := top 20
theorem sc_law_told_on : FnScope n_law_told_on ["_law_cell_here", "_law_start", "_law_many", "_law_goals"] (defScope s_law_told_on) := ⟨rfl, rfl, rfl, by decide +kernel, rfl, by decide +kernel, by decide +kernel⟩
theorem d_law_told_on {fa : Addr} (h_law_mix : DefOk P w K mg base 1 "_law_mix" 3 m_law_mix) (h_law_is_late : DefOk P w K mg base 1 "_law_is_late" 2 m_law_is_late) (h_law_told_late : DefOk P w K mg base 1 "_law_told_late" 5 m_law_told_late) (h_law_word : DefOk P w K mg base 2 "_law_word" 2 m_law_word) (hT : Bl mg) (hC : Cs mg) (cdv : Value) (A : Around) (outer : List Env) (s : Shared) (H : Hp) (hr : Room 2 (A.deeper (envOfC "_law_told_on" (defScope s_law_told_on) s.heap.objs.size fa cdv))) :
    SSs (cxOf CX0 P w K mg base n_law_told_on "_law_told_on" (defScope s_law_told_on) fa cdv A outer s H E0).nox (defBody s_law_told_on) F_law_told_on := by
  have hu := hu30 hr
  have hu1 := hu_of hr
  have hN := sc_law_told_on.nd
  exact (ss_cons (ss_set 4 (se_callD h_law_mix (hr.mono (by decide)) (by kernel_rfl) rfl (sa_cons (se_name 0 (pv 0)) (sa_cons se_int (sa_cons (se_name 2 (pv 2)) sa_nil)))) hN (by kernel_rfl) (.inr (by kernel_rfl))) (ss_cons (ss_setComp 5 (nm := ["_law_k"]) (m := 1) rfl rfl (by kernel_rfl) (by kernel_rfl) (si_range1 (gl (by kernel_rfl)) hT.range (sa_cons (se_op op_subD (sr_name 2 (pv 2)) (sr_of se_int)) sa_nil)) (keeps_gN (show 13 ≤ 13 by decide)) (fun C s₃ H₃ ex => (sg_name 13 (nd_mask (nm := ["_law_k"]) (by kernel_rfl)) (by kernel_rfl) (.inl (by kernel_rfl)) (.inr (by kernel_rfl)))) (fun C s₃ H₃ ex => .inl ⟨rfl, rfl⟩) (fun C s₃ H₃ ex => (se_op op_modD (sr_of (se_op op_addD (sr_of (se_op op_addD (sr_name 4 (pv 4)) (sr_of se_int))) (sr_of (se_op op_modD (sr_of (se_op op_addD (sr_name 13 (pv 13)) (sr_of (se_callD h_law_mix (hr.mono (by decide)) (by kernel_rfl) rfl (sa_cons (se_name 0 (pv 0)) (sa_cons se_int (sa_cons (se_op op_subD (sr_name 2 (pv 2)) (sr_of se_int)) sa_nil))))))) (sr_of (se_op op_subD (sr_name 2 (pv 2)) (sr_of se_int))))))) (sr_name 2 (pv 2)))) hN (by kernel_rfl) (.inl (by kernel_rfl))) (ss_cons (ss_set 6 (se_of_sf (sf_call1 call_sortO (gl (by kernel_rfl)) hT.sorted b_sorted (sr_of (se_of_sf (sf_comp (nm := ["_law_j"]) (m := 1) rfl rfl (by kernel_rfl) (by kernel_rfl) (si_range1 (gl (by kernel_rfl)) hT.range (sa_cons (se_op op_addD (sr_of se_int) (sr_of (se_callD h_law_mix (hr.mono (by decide)) (by kernel_rfl) rfl (sa_cons (se_name 0 (pv 0)) (sa_cons se_int (sa_cons se_int sa_nil)))))) sa_nil)) (keeps_gN (show 13 ≤ 13 by decide)) (fun C s₃ H₃ ex => (sg_name 13 (nd_mask (nm := ["_law_j"]) (by kernel_rfl)) (by kernel_rfl) (.inl (by kernel_rfl)) (.inr (by kernel_rfl)))) (fun C s₃ H₃ ex => .inl ⟨rfl, rfl⟩) (fun C s₃ H₃ ex => (se_callD h_law_word (hr.mono (by decide)) (by kernel_rfl) rfl (sa_cons (se_name 0 (pv 0)) (sa_cons (se_name 13 (pv 13)) sa_nil))))))))) hN (by kernel_rfl) (.inl (by kernel_rfl))) (ss_cons (ss_if (sb_tru (sr_of (se_callD h_law_is_late (hr.mono (by decide)) (by kernel_rfl) rfl (sa_cons (se_name 0 (pv 0)) (sa_cons (se_name 2 (pv 2)) sa_nil))))) (ss_one (ss_ret (se_callD h_law_told_late (hr.mono (by decide)) (by kernel_rfl) rfl (sa_cons (se_name 1 (pv 1)) (sa_cons (se_name 3 (pv 3)) (sa_cons (se_name 4 (pv 4)) (sa_cons (se_name 5 (pv 5)) (sa_cons (se_name 6 (pv 6)) sa_nil)))))))) ss_nil) (ss_cons (ss_setL 7 (sf_lst sa_nil) hN (by kernel_rfl) (.inl (by kernel_rfl))) (ss_cons (ss_setL 8 (sf_lst sa_nil) hN (by kernel_rfl) (.inl (by kernel_rfl))) (ss_cons (ss_for PassesOwn.never rfl (si_enum (gl (by kernel_rfl)) hT.enumerate (se_name 6 (pv 6))) (sg_tup rfl (sgs_cons (sg_name 9 hN (by kernel_rfl) (.inr (by kernel_rfl)) (.inl rfl)) (sgs_cons (sg_name 10 hN (by kernel_rfl) (.inl (by kernel_rfl)) (.inl rfl)) sgs_nil))) (ss_cons (ss_set 11 (se_of_sf (sf_cat (sr_of (se_of_sf (sf_comp (nm := ["_law_k"]) (m := 1) rfl rfl (by kernel_rfl) (by kernel_rfl) (si_range1 (gl (by kernel_rfl)) hT.range (sa_cons (se_op op_subD (sr_name 2 (pv 2)) (sr_of se_int)) sa_nil)) (keeps_gN (show 13 ≤ 13 by decide)) (fun C s₃ H₃ ex => (sg_name 13 (nd_mask (nm := ["_law_k"]) (by kernel_rfl)) (by kernel_rfl) (.inl (by kernel_rfl)) (.inr (by kernel_rfl)))) (fun C s₃ H₃ ex => .inl ⟨rfl, rfl⟩) (fun C s₃ H₃ ex => (se_op op_addD (sr_of (se_op op_addD (sr_of (se_op op_addD (sr_name 1 (pv 1)) (sr_of se_int))) (sr_of (se_op op_mulD (sr_name 9 (pv 9)) (sr_of (se_op op_subD (sr_name 2 (pv 2)) (sr_of se_int))))))) (sr_name 13 (pv 13))))))) (sr_of (se_of_sf (sf_lst (sa_cons (se_ix (sr_name 3 (pv 3)) (sr_name 9 (pv 9))) sa_nil)))))) hN (by kernel_rfl) (.inl (by kernel_rfl))) (ss_cons (ss_append 8 (pv 8) (se_tup (sa_cons (se_name 10 (pv 10)) (sa_cons (se_ix (sr_name 11 (pv 11)) (sr_of se_int)) sa_nil)))) (ss_one (ss_for PassesOwn.never rfl (si_range1 (gl (by kernel_rfl)) hT.range (sa_cons (se_op op_subD (sr_name 2 (pv 2)) (sr_of se_int)) sa_nil)) (sg_name 12 hN (by kernel_rfl) (.inl (by kernel_rfl)) (.inl rfl)) (ss_one (ss_append 7 (pv 7) (se_tup (sa_cons se_str (sa_cons (se_name 4 (pv 4)) (sa_cons (se_ix (sr_name 5 (pv 5)) (sr_of (se_op op_addD (sr_name 12 (pv 12)) (sr_of se_int)))) (sa_cons (se_tup (sa_cons (se_tup (sa_cons (se_name 10 (pv 10)) (sa_cons (se_ix (sr_name 11 (pv 11)) (sr_of (se_op op_addD (sr_name 12 (pv 12)) (sr_of se_int)))) sa_nil))) sa_nil)) sa_nil)))))))))))) (ss_one (ss_ret (se_of_sf (sf_cat (sr_of (se_of_sf (sf_lst (sa_cons (se_tup (sa_cons se_str (sa_cons (se_name 4 (pv 4)) (sa_cons (se_ix (sr_name 5 (pv 5)) (sr_of se_int)) (sa_cons (se_callT1 call_tupO (gl (by kernel_rfl)) hT.tuple b_tuple (sr_name 8 (pv 8))) sa_nil))))) sa_nil)))) (sr_name 7 (pv 7)))))))))))))
abbrev s_law_size : Stmt := top 18
theorem sc_law_size : FnScope n_law_size ["_law_cell_here", "_law_many"] (defScope s_law_size) := ⟨rfl, rfl, rfl, by decide +kernel, rfl, by decide +kernel, by decide +kernel⟩
theorem d_law_size {fa : Addr} (h_law_is_late : DefOk P w K mg base 1 "_law_is_late" 2 m_law_is_late) (h_law_mix : DefOk P w K mg base 1 "_law_mix" 3 m_law_mix) (hT : Bl mg) (hC : Cs mg) (cdv : Value) (A : Around) (outer : List Env) (s : Shared) (H : Hp) (hr : Room 1 (A.deeper (envOfC "_law_size" (defScope s_law_size) s.heap.objs.size fa cdv))) :
    SSs (cxOf CX0 P w K mg base n_law_size "_law_size" (defScope s_law_size) fa cdv A outer s H E0).nox (defBody s_law_size) F_law_size := by
  have hu := hu30 hr
  have hu1 := hu_of hr
  have hN := sc_law_size.nd
  exact (ss_cons (ss_set 2 (se_op op_addD (sr_of (se_op op_subD (sr_name 1 (pv 1)) (sr_of se_int))) (sr_of (se_callT1 call_intO (gl (by kernel_rfl)) hT.int b_int (sr_of (se_callD h_law_is_late (hr.mono (by decide)) (by kernel_rfl) rfl (sa_cons (se_name 0 (pv 0)) (sa_cons (se_name 1 (pv 1)) sa_nil))))))) hN (by kernel_rfl) (.inl (by kernel_rfl))) (ss_one (ss_ret (se_op op_addD (sr_of (se_op op_addD (sr_of se_int) (sr_of (se_op op_mulD (sr_of (se_op op_addD (sr_of se_int) (sr_of (se_callD h_law_mix (hr.mono (by decide)) (by kernel_rfl) rfl (sa_cons (se_name 0 (pv 0)) (sa_cons se_int (sa_cons se_int sa_nil))))))) (sr_name 2 (pv 2)))))) (sr_of (se_callT1 call_intO (gl (by kernel_rfl)) hT.int b_int (sr_of (se_cmp (op_gtD) (sr_of (se_callD h_law_mix (hr.mono (by decide)) (by kernel_rfl) rfl (sa_cons (se_name 0 (pv 0)) (sa_cons se_int (sa_cons se_int sa_nil))))) (sr_of se_int) (nomark _)))))))))
abbrev s_law_apart_two : Stmt := top 21
theorem sc_law_apart_two : FnScope n_law_apart_two ["_law_cell_here", "_law_here", "_law_many", "_law_goal"] (defScope s_law_apart_two) := ⟨rfl, rfl, rfl, by decide +kernel, rfl, by decide +kernel, by decide +kernel⟩
theorem d_law_apart_two {fa : Addr} (h_law_mix : DefOk P w K mg base 1 "_law_mix" 3 m_law_mix) (h_law_word : DefOk P w K mg base 2 "_law_word" 2 m_law_word) (hT : Bl mg) (hC : Cs mg) (cdv : Value) (A : Around) (outer : List Env) (s : Shared) (H : Hp) (hr : Room 2 (A.deeper (envOfC "_law_apart_two" (defScope s_law_apart_two) s.heap.objs.size fa cdv))) :
    SSs (cxOf CX0 P w K mg base n_law_apart_two "_law_apart_two" (defScope s_law_apart_two) fa cdv A outer s H E0).nox (defBody s_law_apart_two) F_law_apart_two := by
  have hu := hu30 hr
  have hu1 := hu_of hr
  have hN := sc_law_apart_two.nd
  exact (ss_cons (ss_set 4 (se_callD h_law_mix (hr.mono (by decide)) (by kernel_rfl) rfl (sa_cons (se_name 0 (pv 0)) (sa_cons se_int (sa_cons (se_name 2 (pv 2)) sa_nil)))) hN (by kernel_rfl) (.inl (by kernel_rfl))) (ss_cons (ss_set 5 (se_op op_modD (sr_of (se_op op_addD (sr_of (se_op op_addD (sr_name 4 (pv 4)) (sr_of se_int))) (sr_of (se_callD h_law_mix (hr.mono (by decide)) (by kernel_rfl) rfl (sa_cons (se_name 0 (pv 0)) (sa_cons se_int (sa_cons (se_op op_subD (sr_name 2 (pv 2)) (sr_of se_int)) sa_nil))))))) (sr_name 2 (pv 2))) hN (by kernel_rfl) (.inl (by kernel_rfl))) (ss_cons (ss_set 6 (se_of_sf (sf_call1 call_sortO (gl (by kernel_rfl)) hT.sorted b_sorted (sr_of (se_of_sf (sf_lst (sa_cons (se_callD h_law_word (hr.mono (by decide)) (by kernel_rfl) rfl (sa_cons (se_op op_addD (sr_name 0 (pv 0)) (sr_of se_int)) (sa_cons se_int sa_nil))) (sa_cons (se_callD h_law_word (hr.mono (by decide)) (by kernel_rfl) rfl (sa_cons (se_op op_addD (sr_name 0 (pv 0)) (sr_of se_int)) (sa_cons se_int sa_nil))) sa_nil))))))) hN (by kernel_rfl) (.inl (by kernel_rfl))) (ss_cons (ss_if (sb_cmp (op_eqD hu) (sr_of (se_callD h_law_mix (hr.mono (by decide)) (by kernel_rfl) rfl (sa_cons (se_name 0 (pv 0)) (sa_cons se_int (sa_cons se_int sa_nil))))) (sr_of se_int) (nomark _)) (ss_one (ss_ret (se_tup (sa_cons se_str (sa_cons (se_name 4 (pv 4)) (sa_cons (se_name 5 (pv 5)) (sa_cons (se_tup (sa_cons (se_tup (sa_cons (se_ix (sr_name 6 (pv 6)) (sr_of se_int)) (sa_cons (se_name 3 (pv 3)) sa_nil))) sa_nil)) sa_nil))))))) ss_nil) (ss_one (ss_ret (se_tup (sa_cons se_str (sa_cons (se_name 4 (pv 4)) (sa_cons (se_name 5 (pv 5)) (sa_cons (se_tup (sa_cons (se_tup (sa_cons (se_ix (sr_name 6 (pv 6)) (sr_of se_int)) (sa_cons (se_ix (sr_of (se_of_sf (sf_lst (sa_cons (se_name 1 (pv 1)) (sa_cons (se_name 3 (pv 3)) sa_nil))))) (sr_of (se_op op_modD (sr_name 0 (pv 0)) (sr_of se_int)))) sa_nil))) (sa_cons (se_tup (sa_cons (se_ix (sr_name 6 (pv 6)) (sr_of se_int)) (sa_cons (se_ix (sr_of (se_of_sf (sf_lst (sa_cons (se_name 3 (pv 3)) (sa_cons (se_name 1 (pv 1)) sa_nil))))) (sr_of (se_op op_modD (sr_name 0 (pv 0)) (sr_of se_int)))) sa_nil))) sa_nil))) sa_nil)))))))))))
abbrev s_law_dance : Stmt := top 22
theorem sc_law_dance : FnScope n_law_dance ["_law_script"] (defScope s_law_dance) := ⟨rfl, rfl, rfl, by decide +kernel, rfl, by decide +kernel, by decide +kernel⟩
theorem d_law_dance {fa : Addr} (h_law_mix : DefOk P w K mg base 1 "_law_mix" 3 m_law_mix) (h_law_cell : DefOk P w K mg base 1 "_law_cell" 2 m_law_cell) (h_law_told_on : DefOk P w K mg base 3 "_law_told_on" 4 m_law_told_on) (h_law_size : DefOk P w K mg base 2 "_law_size" 2 m_law_size) (h_law_apart_two : DefOk P w K mg base 3 "_law_apart_two" 4 m_law_apart_two) (hT : Bl mg) (hC : Cs mg) (cdv : Value) (A : Around) (outer : List Env) (s : Shared) (H : Hp) (hr : Room 3 (A.deeper (envOfC "_law_dance" (defScope s_law_dance) s.heap.objs.size fa cdv))) :
    SSs (cxOf CX0 P w K mg base n_law_dance "_law_dance" (defScope s_law_dance) fa cdv A outer s H E0).nox (defBody s_law_dance) F_law_dance := by
  have hu := hu30 hr
  have hu1 := hu_of hr
  have hN := sc_law_dance.nd
  exact (ss_cons (ss_set 1 (se_op op_addD (sr_of se_int) (sr_of (se_callD h_law_mix (hr.mono (by decide)) (by kernel_rfl) rfl (sa_cons (se_callD h_law_cell (hr.mono (by decide)) (by kernel_rfl) rfl (sa_cons (se_name 0 (pv 0)) (sa_cons se_int sa_nil))) (sa_cons se_int (sa_cons se_int sa_nil)))))) hN (by kernel_rfl) (.inl (by kernel_rfl))) (ss_cons (ss_setComp 2 (nm := ["_law_k"]) (m := 1) rfl rfl (by kernel_rfl) (by kernel_rfl) (si_range1 (gl (by kernel_rfl)) hT.range (sa_cons (se_op op_addD (sr_of se_int) (sr_of (se_callD h_law_mix (hr.mono (by decide)) (by kernel_rfl) rfl (sa_cons (se_callD h_law_cell (hr.mono (by decide)) (by kernel_rfl) rfl (sa_cons (se_name 0 (pv 0)) (sa_cons se_int sa_nil))) (sa_cons se_int (sa_cons se_int sa_nil)))))) sa_nil)) (keeps_gN (show 9 ≤ 9 by decide)) (fun C s₃ H₃ ex => (sg_name 9 (nd_mask (nm := ["_law_k"]) (by kernel_rfl)) (by kernel_rfl) (.inl (by kernel_rfl)) (.inr (by kernel_rfl)))) (fun C s₃ H₃ ex => .inl ⟨rfl, rfl⟩) (fun C s₃ H₃ ex => (se_callD h_law_cell (hr.mono (by decide)) (by kernel_rfl) rfl (sa_cons (se_name 0 (pv 0)) (sa_cons (se_op op_addD (sr_of se_int) (sr_name 9 (pv 9))) sa_nil)))) hN (by kernel_rfl) (.inl (by kernel_rfl))) (ss_cons (ss_setL 3 (sf_lst (sa_cons se_int sa_nil)) hN (by kernel_rfl) (.inr (by kernel_rfl))) (ss_cons (ss_for PassesOwn.never rfl (si_list (se_name 2 (pv 2))) (sg_name 4 hN (by kernel_rfl) (.inr (by kernel_rfl)) (.inl rfl)) (ss_one (ss_append 3 (pv 3) (se_op op_addD (sr_of (se_ix (sr_name 3 (pv 3)) (sr_of (se_neg (sr_of se_int))))) (sr_of (se_callD h_law_size (hr.mono (by decide)) (by kernel_rfl) rfl (sa_cons (se_name 4 (pv 4)) (sa_cons (se_name 1 (pv 1)) sa_nil)))))))) (ss_cons (ss_setL 5 (sf_lst sa_nil) hN (by kernel_rfl) (.inl (by kernel_rfl))) (ss_cons (ss_for PassesOwn.never rfl (si_enum (gl (by kernel_rfl)) hT.enumerate (se_name 2 (pv 2))) (sg_tup rfl (sgs_cons (sg_name 6 hN (by kernel_rfl) (.inl (by kernel_rfl)) (.inl rfl)) (sgs_cons (sg_name 4 hN (by kernel_rfl) (.inr (by kernel_rfl)) (.inl rfl)) sgs_nil))) (ss_cons (ss_setCompL 7 (nm := ["_law_j"]) (m := 1) rfl rfl (by kernel_rfl) (by kernel_rfl) (si_range1 (gl (by kernel_rfl)) hT.range (sa_cons se_int sa_nil)) (keeps_gN (show 9 ≤ 9 by decide)) (fun C s₃ H₃ ex => (sg_name 9 (nd_mask (nm := ["_law_j"]) (by kernel_rfl)) (by kernel_rfl) (.inl (by kernel_rfl)) (.inr (by kernel_rfl)))) (fun C s₃ H₃ ex => .inl ⟨rfl, rfl⟩) (fun C s₃ H₃ ex => (se_ix (sr_name 3 (pv 3)) (sr_of (se_callD h_law_mix (hr.mono (by decide)) (by kernel_rfl) rfl (sa_cons (se_op op_addD (sr_name 4 (pv 4)) (sr_of (se_op op_mulD (sr_of se_int) (sr_name 9 (pv 9))))) (sa_cons se_int (sa_cons (se_call1 call_lenO (gl (by kernel_rfl)) hT.len PySem.boot_len (sr_name 3 (pv 3))) sa_nil))))))) hN (by kernel_rfl) (.inl (by kernel_rfl))) (ss_cons (ss_set 8 (se_ix (sr_name 7 (pv 7)) (sr_of se_int)) hN (by kernel_rfl) (.inl (by kernel_rfl))) (ss_cons (ss_if (sb_cmp (op_gtD) (sr_of (se_callD h_law_mix (hr.mono (by decide)) (by kernel_rfl) rfl (sa_cons (se_name 4 (pv 4)) (sa_cons se_int (sa_cons se_int sa_nil))))) (sr_of se_int) (nomark _)) (ss_one (ss_setIx 7 (pv 7) se_int (se_op op_subD (sr_of (se_ix (sr_name 3 (pv 3)) (sr_of (se_op op_addD (sr_name 6 (pv 6)) (sr_of se_int))))) (sr_of se_int)))) ss_nil) (ss_frz 7 (ss_cons (ss_setL 5 (sf_cat (sr_name 5 (pv 5)) (sr_of (se_callD h_law_told_on (hr.mono (by decide)) (by kernel_rfl) rfl (sa_cons (se_name 4 (pv 4)) (sa_cons (se_ix (sr_name 3 (pv 3)) (sr_name 6 (pv 6))) (sa_cons (se_name 1 (pv 1)) (sa_cons (se_name 7 (pv 7)) sa_nil))))))) hN (by kernel_rfl) (.inl (by kernel_rfl))) (ss_one (ss_if (sb_cmp (op_gtD) (sr_of (se_callD h_law_mix (hr.mono (by decide)) (by kernel_rfl) rfl (sa_cons (se_name 4 (pv 4)) (sa_cons se_int (sa_cons se_int sa_nil))))) (sr_of se_int) (nomark _)) (ss_one (ss_append 5 (pv 5) (se_callD h_law_apart_two (hr.mono (by decide)) (by kernel_rfl) rfl (sa_cons (se_name 4 (pv 4)) (sa_cons (se_op op_subD (sr_of (se_ix (sr_name 3 (pv 3)) (sr_of (se_op op_addD (sr_name 6 (pv 6)) (sr_of se_int))))) (sr_of se_int)) (sa_cons (se_name 1 (pv 1)) (sa_cons (se_name 8 (pv 8)) sa_nil))))))) ss_nil)))))))) (ss_one (ss_ret (se_tup (sa_cons (se_name 1 (pv 1)) (sa_cons (se_callT1 call_tupO (gl (by kernel_rfl)) hT.tuple b_tuple (sr_of (se_of_sf (sf_cat (sr_name 5 (pv 5)) (sr_of (se_of_sf (sf_lst (sa_cons (se_tup (sa_cons se_str sa_nil)) sa_nil)))))))) sa_nil)))))))))))
abbrev s_law_bad_place : Stmt := top 23
theorem sc_law_bad_place : FnScope n_law_bad_place ["_law_place", "_law_many", "_law_count", "_law_cell_here"] (defScope s_law_bad_place) := ⟨rfl, rfl, rfl, by decide +kernel, rfl, by decide +kernel, by decide +kernel⟩
theorem d_law_bad_place {fa : Addr}  (hT : Bl mg) (hC : Cs mg) (cdv : Value) (A : Around) (outer : List Env) (s : Shared) (H : Hp) (hr : Room 1 (A.deeper (envOfC "_law_bad_place" (defScope s_law_bad_place) s.heap.objs.size fa cdv))) :
    SSs (cxOf CX0 P w K mg base n_law_bad_place "_law_bad_place" (defScope s_law_bad_place) fa cdv A outer s H E0).nox (defBody s_law_bad_place) F_law_bad_place := by
  have hu := hu30 hr
  have hu1 := hu_of hr
  have hN := sc_law_bad_place.nd
  exact (ss_cons (ss_asg (se_name 0 (pv 0)) (sg_tup rfl (sgs_cons (sg_name 4 hN (by kernel_rfl) (.inr (by kernel_rfl)) (.inl rfl)) (sgs_cons (sg_name 5 hN (by kernel_rfl) (.inr (by kernel_rfl)) (.inl rfl)) (sgs_cons (sg_name 6 hN (by kernel_rfl) (.inr (by kernel_rfl)) (.inl rfl)) (sgs_cons (sg_name 7 hN (by kernel_rfl) (.inl (by kernel_rfl)) (.inl rfl)) sgs_nil)))))) (ss_cons (ss_asg (se_ix (sr_name 7 (pv 7)) (sr_of se_int)) (sg_tup rfl (sgs_cons (sg_name 8 hN (by kernel_rfl) (.inl (by kernel_rfl)) (.inl rfl)) (sgs_cons (sg_name 9 hN (by kernel_rfl) (.inl (by kernel_rfl)) (.inl rfl)) sgs_nil)))) (ss_cons (ss_set 10 (se_of_sf (sf_lst (sa_cons (se_tup (sa_cons (se_name 4 (pv 4)) (sa_cons (se_name 5 (pv 5)) (sa_cons (se_name 6 (pv 6)) sa_nil)))) (sa_cons (se_tup (sa_cons (se_name 4 (pv 4)) (sa_cons (se_name 5 (pv 5)) (sa_cons (se_name 5 (pv 5)) (sa_cons (se_name 7 (pv 7)) sa_nil))))) (sa_cons (se_tup (sa_cons (se_name 4 (pv 4)) (sa_cons (se_name 1 (pv 1)) (sa_cons (se_name 6 (pv 6)) (sa_cons (se_name 7 (pv 7)) sa_nil))))) (sa_cons (se_tup (sa_cons (se_name 4 (pv 4)) (sa_cons (se_name 5 (pv 5)) (sa_cons (se_neg (sr_of se_int)) (sa_cons (se_name 7 (pv 7)) sa_nil))))) sa_nil)))))) hN (by kernel_rfl) (.inl (by kernel_rfl))) (ss_cons (ss_set 10 (se_of_sf (sf_cat (sr_name 10 (pv 10)) (sr_of (se_of_sf (sf_lst (sa_cons (se_tup (sa_cons se_str (sa_cons (se_name 5 (pv 5)) (sa_cons (se_name 6 (pv 6)) (sa_cons (se_name 7 (pv 7)) sa_nil))))) (sa_cons (se_of_sf (sf_callT1 call_lstO (gl (by kernel_rfl)) hT.list b_list (sr_name 0 (pv 0)))) (sa_cons (se_tup (sa_cons se_str (sa_cons (se_name 5 (pv 5)) sa_nil))) (sa_cons se_str (sa_cons se_non (sa_cons (se_tup sa_nil) (sa_cons (se_tup (sa_cons (se_name 4 (pv 4)) (sa_cons se_bl (sa_cons se_int (sa_cons (se_name 7 (pv 7)) sa_nil))))) sa_nil)))))))))))) hN (by kernel_rfl) (.inl (by kernel_rfl))) (ss_cons (ss_set 11 (se_of_sf (sf_lst (sa_cons (se_tup sa_nil) (sa_cons (se_of_sf (sf_callT1 call_lstO (gl (by kernel_rfl)) hT.list b_list (sr_name 7 (pv 7)))) (sa_cons (se_tup (sa_cons (se_tup (sa_cons (se_name 8 (pv 8)) (sa_cons (se_name 2 (pv 2)) sa_nil))) sa_nil)) (sa_cons (se_tup (sa_cons (se_tup (sa_cons se_str (sa_cons (se_name 9 (pv 9)) sa_nil))) sa_nil)) (sa_cons (se_tup (sa_cons (se_tup (sa_cons (se_name 8 (pv 8)) sa_nil)) sa_nil)) (sa_cons (se_tup (sa_cons (se_tup (sa_cons se_str (sa_cons (se_name 9 (pv 9)) sa_nil))) sa_nil)) (sa_cons (se_tup (sa_cons (se_tup (sa_cons se_str (sa_cons (se_name 9 (pv 9)) sa_nil))) sa_nil)) sa_nil))))))))) hN (by kernel_rfl) (.inl (by kernel_rfl))) (ss_cons (ss_set 11 (se_of_sf (sf_cat (sr_name 11 (pv 11)) (sr_of (se_of_sf (sf_lst (sa_cons (se_tup (sa_cons (se_tup (sa_cons (se_name 8 (pv 8)) (sa_cons (se_name 9 (pv 9)) sa_nil))) (sa_cons (se_tup (sa_cons (se_name 8 (pv 8)) (sa_cons (se_name 9 (pv 9)) sa_nil))) sa_nil))) (sa_cons (se_tup (sa_cons (se_tup (sa_cons (se_name 8 (pv 8)) (sa_cons se_non sa_nil))) sa_nil)) (sa_cons (se_tup (sa_cons (se_tup (sa_cons se_str (sa_cons (se_name 9 (pv 9)) sa_nil))) (sa_cons (se_tup (sa_cons se_str (sa_cons (se_name 9 (pv 9)) sa_nil))) sa_nil))) (sa_cons (se_tup (sa_cons (se_tup (sa_cons (se_name 8 (pv 8)) (sa_cons se_bl sa_nil))) sa_nil)) sa_nil))))))))) hN (by kernel_rfl) (.inl (by kernel_rfl))) (ss_cons (ss_set 11 (se_of_sf (sf_cat (sr_name 11 (pv 11)) (sr_of (se_of_sf (sf_lst (sa_cons (se_tup (sa_cons (se_tup (sa_cons se_str (sa_cons (se_name 9 (pv 9)) sa_nil))) (sa_cons (se_tup (sa_cons se_str (sa_cons (se_name 9 (pv 9)) sa_nil))) (sa_cons (se_tup (sa_cons se_str (sa_cons (se_name 9 (pv 9)) sa_nil))) (sa_cons (se_tup (sa_cons se_str (sa_cons (se_name 9 (pv 9)) sa_nil))) sa_nil))))) (sa_cons (se_tup (sa_cons (se_tup (sa_cons se_int (sa_cons (se_name 9 (pv 9)) sa_nil))) sa_nil)) (sa_cons (se_tup (sa_cons (se_tup (sa_cons se_non (sa_cons (se_name 9 (pv 9)) sa_nil))) sa_nil)) sa_nil)))))))) hN (by kernel_rfl) (.inl (by kernel_rfl))) (ss_cons (ss_set 11 (se_of_sf (sf_cat (sr_name 11 (pv 11)) (sr_of (se_of_sf (sf_lst (sa_cons (se_tup (sa_cons (se_tup (sa_cons se_bl (sa_cons (se_name 9 (pv 9)) sa_nil))) sa_nil)) (sa_cons (se_tup (sa_cons (se_tup (sa_cons (se_tup (sa_cons se_str sa_nil)) (sa_cons (se_name 9 (pv 9)) sa_nil))) sa_nil)) (sa_cons (se_tup (sa_cons (se_tup (sa_cons (se_of_sf (sf_lst (sa_cons se_str sa_nil))) (sa_cons (se_name 9 (pv 9)) sa_nil))) sa_nil)) (sa_cons (se_tup (sa_cons (se_of_sf (sf_lst (sa_cons (se_name 8 (pv 8)) (sa_cons (se_name 9 (pv 9)) sa_nil)))) sa_nil)) (sa_cons (se_tup (sa_cons (se_tup (sa_cons (se_name 8 (pv 8)) (sa_cons (se_neg (sr_of se_int)) sa_nil))) sa_nil)) (sa_cons se_non (sa_cons se_str sa_nil)))))))))))) hN (by kernel_rfl) (.inl (by kernel_rfl))) (ss_cons (ss_set 10 (se_of_sf (sf_cat (sr_name 10 (pv 10)) (sr_of (se_of_sf (sf_lst (sa_cons (se_tup (sa_cons (se_name 4 (pv 4)) (sa_cons se_non (sa_cons (se_name 6 (pv 6)) (sa_cons (se_name 7 (pv 7)) sa_nil))))) (sa_cons (se_tup (sa_cons (se_name 4 (pv 4)) (sa_cons se_str (sa_cons (se_name 6 (pv 6)) (sa_cons (se_name 7 (pv 7)) sa_nil))))) (sa_cons (se_tup (sa_cons (se_name 4 (pv 4)) (sa_cons (se_name 5 (pv 5)) (sa_cons (se_tup (sa_cons se_int sa_nil)) (sa_cons (se_name 7 (pv 7)) sa_nil))))) sa_nil)))))))) hN (by kernel_rfl) (.inl (by kernel_rfl))) (ss_cons (ss_set 10 (se_of_sf (sf_cat (sr_name 10 (pv 10)) (sr_of (se_of_sf (sf_comp (nm := ["_law_row"]) (m := 1) rfl rfl (by kernel_rfl) (by kernel_rfl) (si_list (se_name 11 (pv 11))) (keeps_gN (show 12 ≤ 12 by decide)) (fun C s₃ H₃ ex => (sg_name 12 (nd_mask (nm := ["_law_row"]) (by kernel_rfl)) (by kernel_rfl) (.inl (by kernel_rfl)) (.inr (by kernel_rfl)))) (fun C s₃ H₃ ex => .inl ⟨rfl, rfl⟩) (fun C s₃ H₃ ex => (se_tup (sa_cons (se_name 4 (pv 4)) (sa_cons (se_name 5 (pv 5)) (sa_cons (se_name 6 (pv 6)) (sa_cons (se_name 12 (pv 12)) sa_nil))))))))))) hN (by kernel_rfl) (.inl (by kernel_rfl))) (ss_one (ss_ret (se_ix (sr_name 10 (pv 10)) (sr_of (se_op op_modD (sr_name 3 (pv 3)) (sr_of (se_call1 call_lenO (gl (by kernel_rfl)) hT.len PySem.boot_len (sr_name 10 (pv 10)))))))))))))))))))
abbrev s_is_whole : Stmt := top 6
theorem sc_is_whole : FnScope n_is_whole ["thing"] (defScope s_is_whole) := ⟨rfl, rfl, rfl, by decide +kernel, rfl, by decide +kernel, by decide +kernel⟩
theorem d_is_whole {fa : Addr}  (hT : Bl mg) (hC : Cs mg) (cdv : Value) (A : Around) (outer : List Env) (s : Shared) (H : Hp) (hr : Room 0 (A.deeper (envOfC "is_whole" (defScope s_is_whole) s.heap.objs.size fa cdv))) :
    SSs (cxOf CX0 P w K mg base n_is_whole "is_whole" (defScope s_is_whole) fa cdv A outer s H E0).nox (defBody s_is_whole) F_is_whole := by
  have hu := hu30 hr
  have hu1 := hu_of hr
  have hN := sc_is_whole.nd
  exact (ss_one (ss_ret (se_and (se_isi (T := "int") (by decide) (gl (by kernel_rfl)) hT.isinstance (gl (by kernel_rfl)) hT.int b_int (sr_name 0 (pv 0))) (se_one (se_not (se_isi (T := "bool") (by decide) (gl (by kernel_rfl)) hT.isinstance (gl (by kernel_rfl)) hT.bool b_bool (sr_name 0 (pv 0))))))))
abbrev s_is_word : Stmt := top 8
theorem sc_is_word : FnScope n_is_word ["thing"] (defScope s_is_word) := ⟨rfl, rfl, rfl, by decide +kernel, rfl, by decide +kernel, by decide +kernel⟩
theorem d_is_word {fa : Addr}  (hT : Bl mg) (hC : Cs mg) (cdv : Value) (A : Around) (outer : List Env) (s : Shared) (H : Hp) (hr : Room 0 (A.deeper (envOfC "is_word" (defScope s_is_word) s.heap.objs.size fa cdv))) :
    SSs (cxOf CX0 P w K mg base n_is_word "is_word" (defScope s_is_word) fa cdv A outer s H E0).nox (defBody s_is_word) F_is_word := by
  have hu := hu30 hr
  have hu1 := hu_of hr
  have hN := sc_is_word.nd
  exact (ss_cons (ss_if (sb_w (sw_or (sb_not (sb_tru (sr_of (se_isi (T := "str") (by decide) (gl (by kernel_rfl)) hT.isinstance (gl (by kernel_rfl)) hT.str b_str (sr_name 0 (pv 0)))))) (sw_or1 (sb_not (sb_chain (op_leD) (op_leD) (sr_of se_int) (sr_of (se_call1 call_lenO (gl (by kernel_rfl)) hT.len PySem.boot_len (sr_name 0 (pv 0)))) (sr_of (se_glob hC.LONGEST_WORD (gl (by kernel_rfl))))))))) (ss_one (ss_ret se_bl)) ss_nil) (ss_one (ss_ret (se_call1 (call_allO rfl) (gl (by kernel_rfl)) hT.all b_all (sr_of (se_of_sf (sf_comp (nm := ["sign"]) (m := 1) rfl rfl (by kernel_rfl) (by kernel_rfl) (si_str (se_name 0 (pv 0))) (keeps_gN (show 1 ≤ 1 by decide)) (fun C s₃ H₃ ex => (sg_name 1 (nd_mask (nm := ["sign"]) (by kernel_rfl)) (by kernel_rfl) (.inl (by kernel_rfl)) (.inr (by kernel_rfl)))) (fun C s₃ H₃ ex => .inl ⟨rfl, rfl⟩) (fun C s₃ H₃ ex => (se_chain (op_leD) (op_leD) (sr_of se_str) (sr_name 1 (pv 1)) (sr_of se_str))))))))))
abbrev s_is_number_below : Stmt := top 7
theorem sc_is_number_below : FnScope n_is_number_below ["thing", "bound"] (defScope s_is_number_below) := ⟨rfl, rfl, rfl, by decide +kernel, rfl, by decide +kernel, by decide +kernel⟩
theorem d_is_number_below {fa : Addr} (h_is_whole : DefOk P w K mg base 1 "is_whole" 1 m_is_whole) (hT : Bl mg) (hC : Cs mg) (cdv : Value) (A : Around) (outer : List Env) (s : Shared) (H : Hp) (hr : Room 1 (A.deeper (envOfC "is_number_below" (defScope s_is_number_below) s.heap.objs.size fa cdv))) :
    SSs (cxOf CX0 P w K mg base n_is_number_below "is_number_below" (defScope s_is_number_below) fa cdv A outer s H E0).nox (defBody s_is_number_below) F_is_number_below := by
  have hu := hu30 hr
  have hu1 := hu_of hr
  have hN := sc_is_number_below.nd
  exact (ss_one (ss_ret (se_and (se_callD h_is_whole (hr.mono (by decide)) (by kernel_rfl) rfl (sa_cons (se_name 0 (pv 0)) sa_nil)) (se_one (se_chain (op_leD) (op_ltD) (sr_of se_int) (sr_name 0 (pv 0)) (sr_name 1 (pv 1)))))))
abbrev s_is_choice : Stmt := top 9
theorem sc_is_choice : FnScope n_is_choice ["thing", "place_count"] (defScope s_is_choice) := ⟨rfl, rfl, rfl, by decide +kernel, rfl, by decide +kernel, by decide +kernel⟩
theorem d_is_choice {fa : Addr} (h_is_word : DefOk P w K mg base 1 "is_word" 1 m_is_word) (h_is_number_below : DefOk P w K mg base 2 "is_number_below" 2 m_is_number_below) (hT : Bl mg) (hC : Cs mg) (cdv : Value) (A : Around) (outer : List Env) (s : Shared) (H : Hp) (hr : Room 2 (A.deeper (envOfC "is_choice" (defScope s_is_choice) s.heap.objs.size fa cdv))) :
    SSs (cxOf CX0 P w K mg base n_is_choice "is_choice" (defScope s_is_choice) fa cdv A outer s H E0).nox (defBody s_is_choice) F_is_choice := by
  have hu := hu30 hr
  have hu1 := hu_of hr
  have hN := sc_is_choice.nd
  exact (ss_cons (ss_if (sb_w (sw_or (sb_not (sb_tru (sr_of (se_isi (T := "tuple") (by decide) (gl (by kernel_rfl)) hT.isinstance (gl (by kernel_rfl)) hT.tuple b_tuple (sr_name 0 (pv 0)))))) (sw_or1 (sb_cmp (op_neD hu) (sr_of (se_call1 call_lenO (gl (by kernel_rfl)) hT.len PySem.boot_len (sr_name 0 (pv 0)))) (sr_of se_int) (nomark _))))) (ss_one (ss_ret se_bl)) ss_nil) (ss_one (ss_ret (se_and (se_callD h_is_word (hr.mono (by decide)) (by kernel_rfl) rfl (sa_cons (se_ix (sr_name 0 (pv 0)) (sr_of se_int)) sa_nil)) (se_one (se_callD h_is_number_below (hr.mono (by decide)) (by kernel_rfl) rfl (sa_cons (se_ix (sr_name 0 (pv 0)) (sr_of se_int)) (sa_cons (se_name 1 (pv 1)) sa_nil))))))))
abbrev s_are_choices : Stmt := top 10
theorem sc_are_choices : FnScope n_are_choices ["thing", "place_count"] (defScope s_are_choices) := ⟨rfl, rfl, rfl, by decide +kernel, rfl, by decide +kernel, by decide +kernel⟩
theorem d_are_choices {fa : Addr} (h_is_choice : DefOk P w K mg base 3 "is_choice" 2 m_is_choice) (hT : Bl mg) (hC : Cs mg) (cdv : Value) (A : Around) (outer : List Env) (s : Shared) (H : Hp) (hr : Room 3 (A.deeper (envOfC "are_choices" (defScope s_are_choices) s.heap.objs.size fa cdv))) :
    SSs (cxOf CX0 P w K mg base n_are_choices "are_choices" (defScope s_are_choices) fa cdv A outer s H E0).nox (defBody s_are_choices) F_are_choices := by
  have hu := hu30 hr
  have hu1 := hu_of hr
  have hN := sc_are_choices.nd
  exact (ss_cons (ss_if (sb_w (sw_or (sb_not (sb_tru (sr_of (se_isi (T := "tuple") (by decide) (gl (by kernel_rfl)) hT.isinstance (gl (by kernel_rfl)) hT.tuple b_tuple (sr_name 0 (pv 0)))))) (sw_or1 (sb_not (sb_chain (op_leD) (op_leD) (sr_of se_int) (sr_of (se_call1 call_lenO (gl (by kernel_rfl)) hT.len PySem.boot_len (sr_name 0 (pv 0)))) (sr_of (se_glob hC.MOST_CHOICES (gl (by kernel_rfl))))))))) (ss_one (ss_ret se_bl)) ss_nil) (ss_cons (ss_if (sb_not (sb_tru (sr_of (se_call1 (call_allO rfl) (gl (by kernel_rfl)) hT.all b_all (sr_of (se_of_sf (sf_comp (nm := ["choice"]) (m := 1) rfl rfl (by kernel_rfl) (by kernel_rfl) (si_tup (se_name 0 (pv 0))) (keeps_gN (show 2 ≤ 2 by decide)) (fun C s₃ H₃ ex => (sg_name 2 (nd_mask (nm := ["choice"]) (by kernel_rfl)) (by kernel_rfl) (.inl (by kernel_rfl)) (.inr (by kernel_rfl)))) (fun C s₃ H₃ ex => .inl ⟨rfl, rfl⟩) (fun C s₃ H₃ ex => (se_callD h_is_choice (hr.mono (by decide)) (by kernel_rfl) rfl (sa_cons (se_name 2 (pv 2)) (sa_cons (se_name 1 (pv 1)) sa_nil))))))))))) (ss_one (ss_ret se_bl)) ss_nil) (ss_one (ss_ret (se_call1 (call_allO rfl) (gl (by kernel_rfl)) hT.all b_all (sr_of (se_of_sf (sf_comp (nm := ["k"]) (m := 1) rfl rfl (by kernel_rfl) (by kernel_rfl) (si_range2 (gl (by kernel_rfl)) hT.range (sa_cons se_int (sa_cons (se_call1 call_lenO (gl (by kernel_rfl)) hT.len PySem.boot_len (sr_name 0 (pv 0))) sa_nil))) (keeps_gN (show 2 ≤ 2 by decide)) (fun C s₃ H₃ ex => (sg_name 2 (nd_mask (nm := ["k"]) (by kernel_rfl)) (by kernel_rfl) (.inl (by kernel_rfl)) (.inr (by kernel_rfl)))) (fun C s₃ H₃ ex => .inl ⟨rfl, rfl⟩) (fun C s₃ H₃ ex => (se_cmp (op_ltD) (sr_of (se_ix (sr_of (se_ix (sr_name 0 (pv 0)) (sr_of (se_op op_subD (sr_name 2 (pv 2)) (sr_of se_int))))) (sr_of se_int))) (sr_of (se_ix (sr_of (se_ix (sr_name 0 (pv 0)) (sr_name 2 (pv 2)))) (sr_of se_int))) (nomark _)))))))))))
abbrev s_is_place : Stmt := top 11
theorem sc_is_place : FnScope n_is_place ["thing", "many", "place_count"] (defScope s_is_place) := ⟨rfl, rfl, rfl, by decide +kernel, rfl, by decide +kernel, by decide +kernel⟩
theorem d_is_place {fa : Addr} (h_are_choices : DefOk P w K mg base 4 "are_choices" 2 m_are_choices) (h_is_number_below : DefOk P w K mg base 2 "is_number_below" 2 m_is_number_below) (hT : Bl mg) (hC : Cs mg) (cdv : Value) (A : Around) (outer : List Env) (s : Shared) (H : Hp) (hr : Room 4 (A.deeper (envOfC "is_place" (defScope s_is_place) s.heap.objs.size fa cdv))) :
    SSs (cxOf CX0 P w K mg base n_is_place "is_place" (defScope s_is_place) fa cdv A outer s H E0).nox (defBody s_is_place) F_is_place := by
  have hu := hu30 hr
  have hu1 := hu_of hr
  have hN := sc_is_place.nd
  exact (ss_cons (ss_if (sb_cmp (op_eqD hu) (sr_name 0 (pv 0)) (sr_of (se_tup (sa_cons se_str sa_nil))) (nomark _)) (ss_one (ss_ret se_bl)) ss_nil) (ss_cons (ss_if (sb_w (sw_or (sb_not (sb_tru (sr_of (se_isi (T := "tuple") (by decide) (gl (by kernel_rfl)) hT.isinstance (gl (by kernel_rfl)) hT.tuple b_tuple (sr_name 0 (pv 0)))))) (sw_or (sb_cmp (op_neD hu) (sr_of (se_call1 call_lenO (gl (by kernel_rfl)) hT.len PySem.boot_len (sr_name 0 (pv 0)))) (sr_of se_int) (nomark _)) (sw_or1 (sb_cmp (op_neD hu) (sr_of (se_ix (sr_name 0 (pv 0)) (sr_of se_int))) (sr_of se_str) (nomark _)))))) (ss_one (ss_ret se_bl)) ss_nil) (ss_cons (ss_if (sb_w (sw_or (sb_not (sb_tru (sr_of (se_callD h_is_number_below (hr.mono (by decide)) (by kernel_rfl) rfl (sa_cons (se_ix (sr_name 0 (pv 0)) (sr_of se_int)) (sa_cons (se_name 1 (pv 1)) sa_nil)))))) (sw_or1 (sb_not (sb_tru (sr_of (se_callD h_is_number_below (hr.mono (by decide)) (by kernel_rfl) rfl (sa_cons (se_ix (sr_name 0 (pv 0)) (sr_of se_int)) (sa_cons (se_name 1 (pv 1)) sa_nil))))))))) (ss_one (ss_ret se_bl)) ss_nil) (ss_one (ss_ret (se_and (se_cmp (op_neD hu) (sr_of (se_ix (sr_name 0 (pv 0)) (sr_of se_int))) (sr_of (se_ix (sr_name 0 (pv 0)) (sr_of se_int))) (nomark _)) (se_one (se_callD h_are_choices (hr.mono (by decide)) (by kernel_rfl) rfl (sa_cons (se_ix (sr_name 0 (pv 0)) (sr_of se_int)) (sa_cons (se_name 2 (pv 2)) sa_nil))))))))))
abbrev s_is_dance : Stmt := top 12
theorem sc_is_dance : FnScope n_is_dance ["thing"] (defScope s_is_dance) := ⟨rfl, rfl, rfl, by decide +kernel, rfl, by decide +kernel, by decide +kernel⟩
theorem d_is_dance {fa : Addr} (h_is_whole : DefOk P w K mg base 1 "is_whole" 1 m_is_whole) (h_is_place : DefOk P w K mg base 5 "is_place" 3 m_is_place) (hT : Bl mg) (hC : Cs mg) (cdv : Value) (A : Around) (outer : List Env) (s : Shared) (H : Hp) (hr : Room 5 (A.deeper (envOfC "is_dance" (defScope s_is_dance) s.heap.objs.size fa cdv))) :
    SSs (cxOf CX0 P w K mg base n_is_dance "is_dance" (defScope s_is_dance) fa cdv A outer s H E0).nox (defBody s_is_dance) F_is_dance := by
  have hu := hu30 hr
  have hu1 := hu_of hr
  have hN := sc_is_dance.nd
  exact (ss_cons (ss_if (sb_w (sw_or (sb_not (sb_tru (sr_of (se_isi (T := "tuple") (by decide) (gl (by kernel_rfl)) hT.isinstance (gl (by kernel_rfl)) hT.tuple b_tuple (sr_name 0 (pv 0)))))) (sw_or1 (sb_cmp (op_neD hu) (sr_of (se_call1 call_lenO (gl (by kernel_rfl)) hT.len PySem.boot_len (sr_name 0 (pv 0)))) (sr_of se_int) (nomark _))))) (ss_one (ss_ret se_bl)) ss_nil) (ss_cons (ss_set 1 (se_ix (sr_name 0 (pv 0)) (sr_of se_int)) hN (by kernel_rfl) (.inr (by kernel_rfl))) (ss_cons (ss_set 2 (se_ix (sr_name 0 (pv 0)) (sr_of se_int)) hN (by kernel_rfl) (.inr (by kernel_rfl))) (ss_cons (ss_if (sb_w (sw_or (sb_not (sb_tru (sr_of (se_callD h_is_whole (hr.mono (by decide)) (by kernel_rfl) rfl (sa_cons (se_name 1 (pv 1)) sa_nil))))) (sw_or1 (sb_not (sb_chain (op_leD) (op_leD) (sr_of (se_glob hC.FEWEST_DANCERS (gl (by kernel_rfl)))) (sr_name 1 (pv 1)) (sr_of (se_glob hC.MOST_DANCERS (gl (by kernel_rfl))))))))) (ss_one (ss_ret se_bl)) ss_nil) (ss_cons (ss_if (sb_w (sw_or (sb_not (sb_tru (sr_of (se_isi (T := "tuple") (by decide) (gl (by kernel_rfl)) hT.isinstance (gl (by kernel_rfl)) hT.tuple b_tuple (sr_name 2 (pv 2)))))) (sw_or1 (sb_not (sb_chain (op_leD) (op_leD) (sr_of se_int) (sr_of (se_call1 call_lenO (gl (by kernel_rfl)) hT.len PySem.boot_len (sr_name 2 (pv 2)))) (sr_of (se_glob hC.MOST_PLACES (gl (by kernel_rfl))))))))) (ss_one (ss_ret se_bl)) ss_nil) (ss_one (ss_ret (se_call1 (call_allO rfl) (gl (by kernel_rfl)) hT.all b_all (sr_of (se_of_sf (sf_comp (nm := ["place"]) (m := 1) rfl rfl (by kernel_rfl) (by kernel_rfl) (si_tup (se_name 2 (pv 2))) (keeps_gN (show 3 ≤ 3 by decide)) (fun C s₃ H₃ ex => (sg_name 3 (nd_mask (nm := ["place"]) (by kernel_rfl)) (by kernel_rfl) (.inl (by kernel_rfl)) (.inr (by kernel_rfl)))) (fun C s₃ H₃ ex => .inl ⟨rfl, rfl⟩) (fun C s₃ H₃ ex => (se_callD h_is_place (hr.mono (by decide)) (by kernel_rfl) rfl (sa_cons (se_name 3 (pv 3)) (sa_cons (se_name 1 (pv 1)) (sa_cons (se_call1 call_lenO (gl (by kernel_rfl)) hT.len PySem.boot_len (sr_name 2 (pv 2))) sa_nil))))))))))))))))
abbrev s_law : Stmt := top 24
theorem sc_law : FnScope n_law ["_law_script"] (defScope s_law) := ⟨rfl, rfl, rfl, by decide +kernel, rfl, by decide +kernel, by decide +kernel⟩
theorem d_law {fa : Addr} (h_law_dance : DefOk P w K mg base 4 "_law_dance" 1 m_law_dance) (h_law_bad_place : DefOk P w K mg base 2 "_law_bad_place" 4 m_law_bad_place) (h_is_dance : DefOk P w K mg base 6 "is_dance" 1 m_is_dance) (hT : Bl mg) (hC : Cs mg) (cdv : Value) (A : Around) (outer : List Env) (s : Shared) (H : Hp) (hr : Room 11 (A.deeper (envOfC "law" (defScope s_law) s.heap.objs.size fa cdv))) :
    SSs (cxOf CX0 P w K mg base n_law "law" (defScope s_law) fa cdv A outer s H E0).nox (defBody s_law) F_law := by
  have hu := hu30 hr
  have hu1 := hu_of hr
  have hN := sc_law.nd
  exact (ss_cons (ss_set 1 (se_callD h_law_dance (hr.mono (by decide)) (by kernel_rfl) rfl (sa_cons (se_name 0 (pv 0)) sa_nil)) hN (by kernel_rfl) (.inl (by kernel_rfl))) (ss_cons (ss_asg (se_name 1 (pv 1)) (sg_tup rfl (sgs_cons (sg_name 2 hN (by kernel_rfl) (.inl (by kernel_rfl)) (.inl rfl)) (sgs_cons (sg_name 3 hN (by kernel_rfl) (.inl (by kernel_rfl)) (.inl rfl)) sgs_nil)))) (ss_cons (ss_if (sb_w (sw_or (sb_cmp (op_isnD) (sr_of (se_callD h_is_dance (hr.mono (by decide)) (by kernel_rfl) rfl (sa_cons (se_name 1 (pv 1)) sa_nil))) (sr_of se_bl) (nomark _)) (sw_or1 (sb_cmp (op_isnD) (sr_of (se_callD h_is_dance (hr.mono (by decide)) (by kernel_rfl) rfl (sa_cons (se_tup (sa_cons (se_name 2 (pv 2)) (sa_cons (se_tup (sa_cons (se_tup (sa_cons se_str sa_nil)) sa_nil)) sa_nil))) sa_nil))) (sr_of se_bl) (nomark _))))) (ss_one (ss_ret se_bl)) ss_nil) (ss_cons (ss_for PassesOwn.never rfl (si_list (se_of_sf (sf_slice (sr_name 0 (pv 0)) (so_some se_int) (so_some se_int)))) (sg_name 4 hN (by kernel_rfl) (.inl (by kernel_rfl)) (.inl rfl)) (ss_cons (ss_set 5 (se_op op_modD (sr_name 4 (pv 4)) (sr_of (se_op op_subD (sr_of (se_call1 call_lenO (gl (by kernel_rfl)) hT.len PySem.boot_len (sr_name 3 (pv 3)))) (sr_of se_int)))) hN (by kernel_rfl) (.inl (by kernel_rfl))) (ss_cons (ss_set 6 (se_callD h_law_bad_place (hr.mono (by decide)) (by kernel_rfl) rfl (sa_cons (se_ix (sr_name 3 (pv 3)) (sr_name 5 (pv 5))) (sa_cons (se_name 2 (pv 2)) (sa_cons (se_call1 call_lenO (gl (by kernel_rfl)) hT.len PySem.boot_len (sr_name 3 (pv 3))) (sa_cons (se_op op_fdivD (sr_name 4 (pv 4)) (sr_of se_int)) sa_nil))))) hN (by kernel_rfl) (.inl (by kernel_rfl))) (ss_one (ss_if (sb_cmp (op_isnD) (sr_of (se_callD h_is_dance (hr.mono (by decide)) (by kernel_rfl) rfl (sa_cons (se_tup (sa_cons (se_name 2 (pv 2)) (sa_cons (se_op op_addD (sr_of (se_op op_addD (sr_of (se_slice (sr_name 3 (pv 3)) so_none (so_some (se_name 5 (pv 5))))) (sr_of (se_tup (sa_cons (se_name 6 (pv 6)) sa_nil))))) (sr_of (se_slice (sr_name 3 (pv 3)) (so_some (se_op op_addD (sr_name 5 (pv 5)) (sr_of se_int))) so_none))) sa_nil))) sa_nil))) (sr_of se_bl) (nomark _)) (ss_one (ss_ret se_bl)) ss_nil))))) (ss_cons (ss_set 7 (se_of_sf (sf_lst (sa_cons (se_tup (sa_cons se_int (sa_cons (se_name 3 (pv 3)) sa_nil))) (sa_cons (se_tup (sa_cons se_int (sa_cons (se_name 3 (pv 3)) sa_nil))) (sa_cons (se_tup (sa_cons se_bl (sa_cons (se_name 3 (pv 3)) sa_nil))) (sa_cons (se_tup (sa_cons (se_name 2 (pv 2)) sa_nil)) (sa_cons (se_of_sf (sf_lst (sa_cons (se_name 2 (pv 2)) (sa_cons (se_name 3 (pv 3)) sa_nil)))) (sa_cons (se_tup (sa_cons (se_name 2 (pv 2)) (sa_cons (se_of_sf (sf_callT1 call_lstO (gl (by kernel_rfl)) hT.list b_list (sr_name 3 (pv 3)))) sa_nil))) (sa_cons se_non sa_nil))))))))) hN (by kernel_rfl) (.inl (by kernel_rfl))) (ss_cons (ss_set 7 (se_of_sf (sf_cat (sr_name 7 (pv 7)) (sr_of (se_of_sf (sf_lst (sa_cons (se_tup (sa_cons se_non (sa_cons (se_name 3 (pv 3)) sa_nil))) (sa_cons (se_tup (sa_cons se_str (sa_cons (se_name 3 (pv 3)) sa_nil))) (sa_cons (se_tup (sa_cons (se_tup (sa_cons se_int sa_nil)) (sa_cons (se_name 3 (pv 3)) sa_nil))) (sa_cons (se_tup (sa_cons (se_of_sf (sf_lst (sa_cons se_int sa_nil))) (sa_cons (se_name 3 (pv 3)) sa_nil))) (sa_cons (se_tup (sa_cons (se_name 2 (pv 2)) (sa_cons se_non sa_nil))) (sa_cons se_int (sa_cons se_str sa_nil)))))))))))) hN (by kernel_rfl) (.inl (by kernel_rfl))) (ss_cons (ss_for PassesOwn.never rfl (si_list (se_of_sf (sf_cat (sr_name 7 (pv 7)) (sr_of (se_of_sf (sf_lst (sa_cons (se_tup (sa_cons (se_name 2 (pv 2)) (sa_cons (se_tup sa_nil) sa_nil))) sa_nil))))))) (sg_name 6 hN (by kernel_rfl) (.inl (by kernel_rfl)) (.inl rfl)) (ss_one (ss_if (sb_cmp (op_isnD) (sr_of (se_callD h_is_dance (hr.mono (by decide)) (by kernel_rfl) rfl (sa_cons (se_name 6 (pv 6)) sa_nil))) (sr_of se_bl) (nomark _)) (ss_one (ss_ret se_bl)) ss_nil))) (ss_cons (ss_if (sb_cmp (op_isnD) (sr_of (se_callD h_is_dance (hr.mono (by decide)) (by kernel_rfl) rfl (sa_cons (se_tup (sa_cons (se_name 2 (pv 2)) (sa_cons (se_op op_mulT (sr_of (se_tup (sa_cons (se_tup (sa_cons se_str sa_nil)) sa_nil))) (sr_of se_int)) sa_nil))) sa_nil))) (sr_of se_bl) (nomark _)) (ss_one (ss_ret se_bl)) ss_nil) (ss_one (ss_ret (se_cmp (op_isD) (sr_of (se_callD h_is_dance (hr.mono (by decide)) (by kernel_rfl) rfl (sa_cons (se_tup (sa_cons (se_name 2 (pv 2)) (sa_cons (se_callT1 call_tupO (gl (by kernel_rfl)) hT.tuple b_tuple (sr_of (se_of_sf (sf_comp (nm := ["_law_k"]) (m := 1) rfl rfl (by kernel_rfl) (by kernel_rfl) (si_range1 (gl (by kernel_rfl)) hT.range (sa_cons se_int sa_nil)) (keeps_gN (show 8 ≤ 8 by decide)) (fun C s₃ H₃ ex => (sg_name 8 (nd_mask (nm := ["_law_k"]) (by kernel_rfl)) (by kernel_rfl) (.inl (by kernel_rfl)) (.inr (by kernel_rfl)))) (fun C s₃ H₃ ex => .inl ⟨rfl, rfl⟩) (fun C s₃ H₃ ex => (se_tup (sa_cons se_str sa_nil))))))) sa_nil))) sa_nil))) (sr_of se_bl) (nomark _))))))))))))
end
end K01

set_option Elab.async false
set_option linter.all false
set_option maxRecDepth 100000
set_option maxHeartbeats 4000000
namespace K01
open PySem PySem.Spec PyProof.Rows L2 RD LG
theorem all_mk {l : PySem.W.OpenLaw} {w : World} {K : PySem.W.Frag} {h : Heap} {mg : Str → Option Value} {fa f0 f1 f2 f3 f4 f5 f6 f7 f8 f9 f10 f11 f12 f13 f14 f15 f16 f17 : Addr} (X : K.In h) (G : h.Ns mainGlobals mg) (hfa : mg "law" = some (.ref fa))
    {od0 od1 od2 od3 od4 od5 od6 od7 od8 od9 od10 od11 od12 od13 od14 od15 od16 od17 an0 an1 an2 an3 an4 an5 an6 an7 an8 an9 an10 an11 an12 an13 an14 an15 an16 an17 : Option Addr} {sl0 sl1 sl2 sl3 sl4 sl5 sl6 sl7 sl8 sl9 sl10 sl11 sl12 sl13 sl14 sl15 sl16 sl17 : Array (Option Value)} {oc0 oc1 oc2 oc3 oc4 oc5 oc6 oc7 oc8 oc9 oc10 oc11 oc12 oc13 oc14 oc15 oc16 oc17 kV0 kV1 kV2 kV3 kV4 kV5 kV6 kV7 kV8 kV9 kV10 kV11 kV12 kV13 kV14 kV15 kV16 kV17 dc0 dc1 dc2 dc3 dc4 dc5 dc6 dc7 dc8 dc9 dc10 dc11 dc12 dc13 dc14 dc15 dc16 dc17 pm0 pm1 pm2 pm3 pm4 pm5 pm6 pm7 pm8 pm9 pm10 pm11 pm12 pm13 pm14 pm15 pm16 pm17 cd0 cd1 cd2 cd3 cd4 cd5 cd6 cd7 cd8 cd9 cd10 cd11 cd12 cd13 cd14 cd15 cd16 cd17 ct0 ct1 ct2 ct3 ct4 ct5 ct6 ct7 ct8 ct9 ct10 ct11 ct12 ct13 ct14 ct15 ct16 ct17 : Value}
    (a0 : PySem.W.nsIn K mainGlobals "_law_mix" = some (some (.ref f0))) (l0 : K.lookup f0 = some ⟨oc0, od0, .func (PySem.W.fnOf "_law_mix" "_law_mix" (defArgs s_law_mix) (defBody s_law_mix) (defScope s_law_mix) .none kV0 dc0 pm0 an0 cd0 ct0), sl0⟩) (c0 : PySem.W.codeIn K cd0 "_law_mix" = true) (k0 : PySem.W.keepIn K (.ref f0) = true)
    (a1 : PySem.W.nsIn K mainGlobals "_law_cell" = some (some (.ref f1))) (l1 : K.lookup f1 = some ⟨oc1, od1, .func (PySem.W.fnOf "_law_cell" "_law_cell" (defArgs s_law_cell) (defBody s_law_cell) (defScope s_law_cell) .none kV1 dc1 pm1 an1 cd1 ct1), sl1⟩) (c1 : PySem.W.codeIn K cd1 "_law_cell" = true) (k1 : PySem.W.keepIn K (.ref f1) = true)
    (a2 : PySem.W.nsIn K mainGlobals "_law_is_late" = some (some (.ref f2))) (l2 : K.lookup f2 = some ⟨oc2, od2, .func (PySem.W.fnOf "_law_is_late" "_law_is_late" (defArgs s_law_is_late) (defBody s_law_is_late) (defScope s_law_is_late) .none kV2 dc2 pm2 an2 cd2 ct2), sl2⟩) (c2 : PySem.W.codeIn K cd2 "_law_is_late" = true) (k2 : PySem.W.keepIn K (.ref f2) = true)
    (a3 : PySem.W.nsIn K mainGlobals "_law_told_late" = some (some (.ref f3))) (l3 : K.lookup f3 = some ⟨oc3, od3, .func (PySem.W.fnOf "_law_told_late" "_law_told_late" (defArgs s_law_told_late) (defBody s_law_told_late) (defScope s_law_told_late) .none kV3 dc3 pm3 an3 cd3 ct3), sl3⟩) (c3 : PySem.W.codeIn K cd3 "_law_told_late" = true) (k3 : PySem.W.keepIn K (.ref f3) = true)
    (a4 : PySem.W.nsIn K mainGlobals "_law_word" = some (some (.ref f4))) (l4 : K.lookup f4 = some ⟨oc4, od4, .func (PySem.W.fnOf "_law_word" "_law_word" (defArgs s_law_word) (defBody s_law_word) (defScope s_law_word) .none kV4 dc4 pm4 an4 cd4 ct4), sl4⟩) (c4 : PySem.W.codeIn K cd4 "_law_word" = true) (k4 : PySem.W.keepIn K (.ref f4) = true)
    (a5 : PySem.W.nsIn K mainGlobals "_law_told_on" = some (some (.ref f5))) (l5 : K.lookup f5 = some ⟨oc5, od5, .func (PySem.W.fnOf "_law_told_on" "_law_told_on" (defArgs s_law_told_on) (defBody s_law_told_on) (defScope s_law_told_on) .none kV5 dc5 pm5 an5 cd5 ct5), sl5⟩) (c5 : PySem.W.codeIn K cd5 "_law_told_on" = true) (k5 : PySem.W.keepIn K (.ref f5) = true)
    (a6 : PySem.W.nsIn K mainGlobals "_law_size" = some (some (.ref f6))) (l6 : K.lookup f6 = some ⟨oc6, od6, .func (PySem.W.fnOf "_law_size" "_law_size" (defArgs s_law_size) (defBody s_law_size) (defScope s_law_size) .none kV6 dc6 pm6 an6 cd6 ct6), sl6⟩) (c6 : PySem.W.codeIn K cd6 "_law_size" = true) (k6 : PySem.W.keepIn K (.ref f6) = true)
    (a7 : PySem.W.nsIn K mainGlobals "_law_apart_two" = some (some (.ref f7))) (l7 : K.lookup f7 = some ⟨oc7, od7, .func (PySem.W.fnOf "_law_apart_two" "_law_apart_two" (defArgs s_law_apart_two) (defBody s_law_apart_two) (defScope s_law_apart_two) .none kV7 dc7 pm7 an7 cd7 ct7), sl7⟩) (c7 : PySem.W.codeIn K cd7 "_law_apart_two" = true) (k7 : PySem.W.keepIn K (.ref f7) = true)
    (a8 : PySem.W.nsIn K mainGlobals "_law_dance" = some (some (.ref f8))) (l8 : K.lookup f8 = some ⟨oc8, od8, .func (PySem.W.fnOf "_law_dance" "_law_dance" (defArgs s_law_dance) (defBody s_law_dance) (defScope s_law_dance) .none kV8 dc8 pm8 an8 cd8 ct8), sl8⟩) (c8 : PySem.W.codeIn K cd8 "_law_dance" = true) (k8 : PySem.W.keepIn K (.ref f8) = true)
    (a9 : PySem.W.nsIn K mainGlobals "_law_bad_place" = some (some (.ref f9))) (l9 : K.lookup f9 = some ⟨oc9, od9, .func (PySem.W.fnOf "_law_bad_place" "_law_bad_place" (defArgs s_law_bad_place) (defBody s_law_bad_place) (defScope s_law_bad_place) .none kV9 dc9 pm9 an9 cd9 ct9), sl9⟩) (c9 : PySem.W.codeIn K cd9 "_law_bad_place" = true) (k9 : PySem.W.keepIn K (.ref f9) = true)
    (a10 : PySem.W.nsIn K mainGlobals "is_whole" = some (some (.ref f10))) (l10 : K.lookup f10 = some ⟨oc10, od10, .func (PySem.W.fnOf "is_whole" "is_whole" (defArgs s_is_whole) (defBody s_is_whole) (defScope s_is_whole) .none kV10 dc10 pm10 an10 cd10 ct10), sl10⟩) (c10 : PySem.W.codeIn K cd10 "is_whole" = true) (k10 : PySem.W.keepIn K (.ref f10) = true)
    (a11 : PySem.W.nsIn K mainGlobals "is_word" = some (some (.ref f11))) (l11 : K.lookup f11 = some ⟨oc11, od11, .func (PySem.W.fnOf "is_word" "is_word" (defArgs s_is_word) (defBody s_is_word) (defScope s_is_word) .none kV11 dc11 pm11 an11 cd11 ct11), sl11⟩) (c11 : PySem.W.codeIn K cd11 "is_word" = true) (k11 : PySem.W.keepIn K (.ref f11) = true)
    (a12 : PySem.W.nsIn K mainGlobals "is_number_below" = some (some (.ref f12))) (l12 : K.lookup f12 = some ⟨oc12, od12, .func (PySem.W.fnOf "is_number_below" "is_number_below" (defArgs s_is_number_below) (defBody s_is_number_below) (defScope s_is_number_below) .none kV12 dc12 pm12 an12 cd12 ct12), sl12⟩) (c12 : PySem.W.codeIn K cd12 "is_number_below" = true) (k12 : PySem.W.keepIn K (.ref f12) = true)
    (a13 : PySem.W.nsIn K mainGlobals "is_choice" = some (some (.ref f13))) (l13 : K.lookup f13 = some ⟨oc13, od13, .func (PySem.W.fnOf "is_choice" "is_choice" (defArgs s_is_choice) (defBody s_is_choice) (defScope s_is_choice) .none kV13 dc13 pm13 an13 cd13 ct13), sl13⟩) (c13 : PySem.W.codeIn K cd13 "is_choice" = true) (k13 : PySem.W.keepIn K (.ref f13) = true)
    (a14 : PySem.W.nsIn K mainGlobals "are_choices" = some (some (.ref f14))) (l14 : K.lookup f14 = some ⟨oc14, od14, .func (PySem.W.fnOf "are_choices" "are_choices" (defArgs s_are_choices) (defBody s_are_choices) (defScope s_are_choices) .none kV14 dc14 pm14 an14 cd14 ct14), sl14⟩) (c14 : PySem.W.codeIn K cd14 "are_choices" = true) (k14 : PySem.W.keepIn K (.ref f14) = true)
    (a15 : PySem.W.nsIn K mainGlobals "is_place" = some (some (.ref f15))) (l15 : K.lookup f15 = some ⟨oc15, od15, .func (PySem.W.fnOf "is_place" "is_place" (defArgs s_is_place) (defBody s_is_place) (defScope s_is_place) .none kV15 dc15 pm15 an15 cd15 ct15), sl15⟩) (c15 : PySem.W.codeIn K cd15 "is_place" = true) (k15 : PySem.W.keepIn K (.ref f15) = true)
    (a16 : PySem.W.nsIn K mainGlobals "is_dance" = some (some (.ref f16))) (l16 : K.lookup f16 = some ⟨oc16, od16, .func (PySem.W.fnOf "is_dance" "is_dance" (defArgs s_is_dance) (defBody s_is_dance) (defScope s_is_dance) .none kV16 dc16 pm16 an16 cd16 ct16), sl16⟩) (c16 : PySem.W.codeIn K cd16 "is_dance" = true) (k16 : PySem.W.keepIn K (.ref f16) = true)
    (a17 : PySem.W.nsIn K mainGlobals "law" = some (some (.ref f17))) (l17 : K.lookup f17 = some ⟨oc17, od17, .func (PySem.W.fnOf "law" "law" (defArgs s_law) (defBody s_law) (defScope s_law) .none kV17 dc17 pm17 an17 cd17 ct17), sl17⟩) (c17 : PySem.W.codeIn K cd17 "law" = true) (k17 : PySem.W.keepIn K (.ref f17) = true)
    (z_len : PySem.W.nsIn K mainGlobals "len" = some none)
    (z_range : PySem.W.nsIn K mainGlobals "range" = some none)
    (z_enumerate : PySem.W.nsIn K mainGlobals "enumerate" = some none)
    (z_sorted : PySem.W.nsIn K mainGlobals "sorted" = some none)
    (z_tuple : PySem.W.nsIn K mainGlobals "tuple" = some none)
    (z_list : PySem.W.nsIn K mainGlobals "list" = some none)
    (z_int : PySem.W.nsIn K mainGlobals "int" = some none)
    (z_dict : PySem.W.nsIn K mainGlobals "dict" = some none)
    (z_isinstance : PySem.W.nsIn K mainGlobals "isinstance" = some none)
    (z_all : PySem.W.nsIn K mainGlobals "all" = some none)
    (z_any : PySem.W.nsIn K mainGlobals "any" = some none)
    (z_str : PySem.W.nsIn K mainGlobals "str" = some none)
    (z_bool : PySem.W.nsIn K mainGlobals "bool" = some none)
    {tk_FEWEST_DANCERS : Tok} (y_FEWEST_DANCERS : PySem.W.nsIn K mainGlobals "FEWEST_DANCERS" = some (some (.int 2 tk_FEWEST_DANCERS)))
    {tk_MOST_DANCERS : Tok} (y_MOST_DANCERS : PySem.W.nsIn K mainGlobals "MOST_DANCERS" = some (some (.int 4 tk_MOST_DANCERS)))
    {tk_MOST_PLACES : Tok} (y_MOST_PLACES : PySem.W.nsIn K mainGlobals "MOST_PLACES" = some (some (.int 40 tk_MOST_PLACES)))
    {tk_MOST_CHOICES : Tok} (y_MOST_CHOICES : PySem.W.nsIn K mainGlobals "MOST_CHOICES" = some (some (.int 3 tk_MOST_CHOICES)))
    {tk_LONGEST_WORD : Tok} (y_LONGEST_WORD : PySem.W.nsIn K mainGlobals "LONGEST_WORD" = some (some (.int 3 tk_LONGEST_WORD)))
    : ∃ fd : FuncData, (∀ (s : Shared) (v : Value), BindsTo s fd ⟨[v], []⟩ [("_law_script", v)]) ∧ ∀ base : Heap, K.In base → base.Ns mainGlobals mg → FnOk l.prog w K mg base CX0 12 fa fd ["_law_script"] (spD K m_law 1) := by
  have e := hfa.symm.trans (PySem.W.mg_of X G a17)
  cases e
  have hT : Bl mg := ⟨PySem.W.mg_none_of X G z_len, PySem.W.mg_none_of X G z_range, PySem.W.mg_none_of X G z_enumerate, PySem.W.mg_none_of X G z_sorted, PySem.W.mg_none_of X G z_tuple, PySem.W.mg_none_of X G z_list, PySem.W.mg_none_of X G z_int, PySem.W.mg_none_of X G z_dict, PySem.W.mg_none_of X G z_isinstance, PySem.W.mg_none_of X G z_all, PySem.W.mg_none_of X G z_any, PySem.W.mg_none_of X G z_str, PySem.W.mg_none_of X G z_bool⟩
  have hC : Cs mg := ⟨⟨_, PySem.W.mg_of X G y_FEWEST_DANCERS⟩, ⟨_, PySem.W.mg_of X G y_MOST_DANCERS⟩, ⟨_, PySem.W.mg_of X G y_MOST_PLACES⟩, ⟨_, PySem.W.mg_of X G y_MOST_CHOICES⟩, ⟨_, PySem.W.mg_of X G y_LONGEST_WORD⟩⟩
  have F0 := fun_mk (st := s_law_mix) l0 c0 k0
  have b0 := F0.binds (ps := ["_law_cell_here", "_law_prime", "_law_many"]) fun _ _ _ _ _ _ us hl => match us, hl with | [_, _, _], _ => rfl
  have F1 := fun_mk (st := s_law_cell) l1 c1 k1
  have b1 := F1.binds (ps := ["_law_script", "_law_k"]) fun _ _ _ _ _ _ us hl => match us, hl with | [_, _], _ => rfl
  have F2 := fun_mk (st := s_law_is_late) l2 c2 k2
  have b2 := F2.binds (ps := ["_law_cell_here", "_law_many"]) fun _ _ _ _ _ _ us hl => match us, hl with | [_, _], _ => rfl
  have F3 := fun_mk (st := s_law_told_late) l3 c3 k3
  have b3 := F3.binds (ps := ["_law_start", "_law_goals", "_law_one", "_law_others", "_law_words"]) fun _ _ _ _ _ _ us hl => match us, hl with | [_, _, _, _, _], _ => rfl
  have F4 := fun_mk (st := s_law_word) l4 c4 k4
  have b4 := F4.binds (ps := ["_law_cell_here", "_law_j"]) fun _ _ _ _ _ _ us hl => match us, hl with | [_, _], _ => rfl
  have F5 := fun_mk (st := s_law_told_on) l5 c5 k5
  have b5 := F5.binds (ps := ["_law_cell_here", "_law_start", "_law_many", "_law_goals"]) fun _ _ _ _ _ _ us hl => match us, hl with | [_, _, _, _], _ => rfl
  have F6 := fun_mk (st := s_law_size) l6 c6 k6
  have b6 := F6.binds (ps := ["_law_cell_here", "_law_many"]) fun _ _ _ _ _ _ us hl => match us, hl with | [_, _], _ => rfl
  have F7 := fun_mk (st := s_law_apart_two) l7 c7 k7
  have b7 := F7.binds (ps := ["_law_cell_here", "_law_here", "_law_many", "_law_goal"]) fun _ _ _ _ _ _ us hl => match us, hl with | [_, _, _, _], _ => rfl
  have F8 := fun_mk (st := s_law_dance) l8 c8 k8
  have b8 := F8.binds (ps := ["_law_script"]) fun _ _ _ _ _ _ us hl => match us, hl with | [_], _ => rfl
  have F9 := fun_mk (st := s_law_bad_place) l9 c9 k9
  have b9 := F9.binds (ps := ["_law_place", "_law_many", "_law_count", "_law_cell_here"]) fun _ _ _ _ _ _ us hl => match us, hl with | [_, _, _, _], _ => rfl
  have F10 := fun_mk (st := s_is_whole) l10 c10 k10
  have b10 := F10.binds (ps := ["thing"]) fun _ _ _ _ _ _ us hl => match us, hl with | [_], _ => rfl
  have F11 := fun_mk (st := s_is_word) l11 c11 k11
  have b11 := F11.binds (ps := ["thing"]) fun _ _ _ _ _ _ us hl => match us, hl with | [_], _ => rfl
  have F12 := fun_mk (st := s_is_number_below) l12 c12 k12
  have b12 := F12.binds (ps := ["thing", "bound"]) fun _ _ _ _ _ _ us hl => match us, hl with | [_, _], _ => rfl
  have F13 := fun_mk (st := s_is_choice) l13 c13 k13
  have b13 := F13.binds (ps := ["thing", "place_count"]) fun _ _ _ _ _ _ us hl => match us, hl with | [_, _], _ => rfl
  have F14 := fun_mk (st := s_are_choices) l14 c14 k14
  have b14 := F14.binds (ps := ["thing", "place_count"]) fun _ _ _ _ _ _ us hl => match us, hl with | [_, _], _ => rfl
  have F15 := fun_mk (st := s_is_place) l15 c15 k15
  have b15 := F15.binds (ps := ["thing", "many", "place_count"]) fun _ _ _ _ _ _ us hl => match us, hl with | [_, _, _], _ => rfl
  have F16 := fun_mk (st := s_is_dance) l16 c16 k16
  have b16 := F16.binds (ps := ["thing"]) fun _ _ _ _ _ _ us hl => match us, hl with | [_], _ => rfl
  have F17 := fun_mk (st := s_law) l17 c17 k17
  refine ⟨PySem.W.fnOf "law" "law" (defArgs s_law) (defBody s_law) (defScope s_law) .none kV17 dc17 pm17 an17 cd17 ct17, fun s v => .of_eq rfl, fun base _ _ => ?_⟩
  have h_law_mix : DefOk l.prog w K mg base 1 "_law_mix" 3 m_law_mix := def_mk F0 (PySem.W.mg_of X G a0) b0 sc_law_mix (fun cdv A outer s H hr => d_law_mix  hT hC cdv A outer s H hr) (fun _ _ _ h => h)
  have h_law_cell : DefOk l.prog w K mg base 1 "_law_cell" 2 m_law_cell := def_mk F1 (PySem.W.mg_of X G a1) b1 sc_law_cell (fun cdv A outer s H hr => d_law_cell  hT hC cdv A outer s H hr) (fun _ _ _ h => h)
  have h_law_is_late : DefOk l.prog w K mg base 1 "_law_is_late" 2 m_law_is_late := def_mk F2 (PySem.W.mg_of X G a2) b2 sc_law_is_late (fun cdv A outer s H hr => d_law_is_late  hT hC cdv A outer s H hr) (fun _ _ _ h => h)
  have h_law_told_late : DefOk l.prog w K mg base 1 "_law_told_late" 5 m_law_told_late := def_mk F3 (PySem.W.mg_of X G a3) b3 sc_law_told_late (fun cdv A outer s H hr => d_law_told_late  hT hC cdv A outer s H hr) (fun _ _ _ h => h)
  have h_law_word : DefOk l.prog w K mg base 2 "_law_word" 2 m_law_word := def_mk F4 (PySem.W.mg_of X G a4) b4 sc_law_word (fun cdv A outer s H hr => d_law_word h_law_mix hT hC cdv A outer s H hr) (fun _ _ _ h => h)
  have h_law_told_on : DefOk l.prog w K mg base 3 "_law_told_on" 4 m_law_told_on := def_mk F5 (PySem.W.mg_of X G a5) b5 sc_law_told_on (fun cdv A outer s H hr => d_law_told_on h_law_mix h_law_is_late h_law_told_late h_law_word hT hC cdv A outer s H hr) (fun _ _ _ h => h)
  have h_law_size : DefOk l.prog w K mg base 2 "_law_size" 2 m_law_size := def_mk F6 (PySem.W.mg_of X G a6) b6 sc_law_size (fun cdv A outer s H hr => d_law_size h_law_is_late h_law_mix hT hC cdv A outer s H hr) (fun _ _ _ h => h)
  have h_law_apart_two : DefOk l.prog w K mg base 3 "_law_apart_two" 4 m_law_apart_two := def_mk F7 (PySem.W.mg_of X G a7) b7 sc_law_apart_two (fun cdv A outer s H hr => d_law_apart_two h_law_mix h_law_word hT hC cdv A outer s H hr) (fun _ _ _ h => h)
  have h_law_dance : DefOk l.prog w K mg base 4 "_law_dance" 1 m_law_dance := def_mk F8 (PySem.W.mg_of X G a8) b8 sc_law_dance (fun cdv A outer s H hr => d_law_dance h_law_mix h_law_cell h_law_told_on h_law_size h_law_apart_two hT hC cdv A outer s H hr) (fun _ _ _ h => h)
  have h_law_bad_place : DefOk l.prog w K mg base 2 "_law_bad_place" 4 m_law_bad_place := def_mk F9 (PySem.W.mg_of X G a9) b9 sc_law_bad_place (fun cdv A outer s H hr => d_law_bad_place  hT hC cdv A outer s H hr) (fun _ _ _ h => h)
  have h_is_whole : DefOk l.prog w K mg base 1 "is_whole" 1 m_is_whole := def_mk F10 (PySem.W.mg_of X G a10) b10 sc_is_whole (fun cdv A outer s H hr => d_is_whole  hT hC cdv A outer s H hr) (fun _ _ _ h => h)
  have h_is_word : DefOk l.prog w K mg base 1 "is_word" 1 m_is_word := def_mk F11 (PySem.W.mg_of X G a11) b11 sc_is_word (fun cdv A outer s H hr => d_is_word  hT hC cdv A outer s H hr) (fun _ _ _ h => h)
  have h_is_number_below : DefOk l.prog w K mg base 2 "is_number_below" 2 m_is_number_below := def_mk F12 (PySem.W.mg_of X G a12) b12 sc_is_number_below (fun cdv A outer s H hr => d_is_number_below h_is_whole hT hC cdv A outer s H hr) (fun _ _ _ h => h)
  have h_is_choice : DefOk l.prog w K mg base 3 "is_choice" 2 m_is_choice := def_mk F13 (PySem.W.mg_of X G a13) b13 sc_is_choice (fun cdv A outer s H hr => d_is_choice h_is_word h_is_number_below hT hC cdv A outer s H hr) (fun _ _ _ h => h)
  have h_are_choices : DefOk l.prog w K mg base 4 "are_choices" 2 m_are_choices := def_mk F14 (PySem.W.mg_of X G a14) b14 sc_are_choices (fun cdv A outer s H hr => d_are_choices h_is_choice hT hC cdv A outer s H hr) (fun _ _ _ h => h)
  have h_is_place : DefOk l.prog w K mg base 5 "is_place" 3 m_is_place := def_mk F15 (PySem.W.mg_of X G a15) b15 sc_is_place (fun cdv A outer s H hr => d_is_place h_are_choices h_is_number_below hT hC cdv A outer s H hr) (fun _ _ _ h => h)
  have h_is_dance : DefOk l.prog w K mg base 6 "is_dance" 1 m_is_dance := def_mk F16 (PySem.W.mg_of X G a16) b16 sc_is_dance (fun cdv A outer s H hr => d_is_dance h_is_whole h_is_place hT hC cdv A outer s H hr) (fun _ _ _ h => h)
  exact fn_mk F17 sc_law (fun cdv A outer s H hr => d_law h_law_dance h_law_bad_place h_is_dance hT hC cdv A outer s H hr) (fun _ _ _ h => h)
theorem walk {l : PySem.W.OpenLaw} {q : Program} {loose : List Str} {XP : (Str → Option Value) → Heap → Prop} {YP : World → Heap → Prop} {d : DefRec} {K : Params → PySem.W.Frag} (hn : l.most = some 63) (hdf : d.params.defaults = [])
    (hY : ∀ (w : World) (h : Heap), YP w h → (K w.params).In h)
    (F : ∀ (w : World) (mg : Str → Option Value) (fa : Addr) (h : Heap), (K w.params).In h → h.Ns mainGlobals mg → mg d.name = some (.ref fa) →
      ∃ fd : FuncData, (∀ (s : Shared) (u : Value), BindsTo s fd ⟨[u], []⟩ [("_law_script", u)]) ∧ ∀ base : Heap, (K w.params).In base → base.Ns mainGlobals mg → FnOk l.prog w (K w.params) mg base CX0 12 fa fd ["_law_script"] (spD (K w.params) m_law 1)) :
    PySem.W.WalkO q loose XP YP l.row.toRowW d [] (fun f vs => PySem.call f vs) :=
  L2.walk_of (n := 63) (k := 12) (x := "_law_script") (CX := fun _ => CX0) (sp := fun w => spD (K w.params) m_law 1) hn (by decide) hdf ⟨rfl, by decide, by decide⟩ hY F (fun w H a ns hl _ hS => by
    refine ⟨H, [.lst (ns.map D.int)], .bl true, Same.refl _, Reps.cons (rep_lst.mpr ⟨a, _, rfl, hS, Reps.ints ns⟩) Reps.nil, rfl, law_is ns hl, fun v G' H' _ r => rep_bl.mp r⟩) fun _ _ _ _ _ z => z
end K01
open PySem PySem.W PyProof.Rows
set_option maxRecDepth 100000 in
set_option maxHeartbeats 0 in
theorem PySem.Challenge.cw_reelhall_k01_dances_holds : PySem.Challenge.rw_reelhall_k01_dances.Holds := by
  w_on; o_law; k_head; (case hw => w_witness2)
  k_fill
  refine K01.walk (l := PySem.Challenge.rw_reelhall_k01_dances) rfl rfl (fun w h Y => PySem.W.kIn_of Y) ?F
  case F =>
    intro w mg fa h KX G hmg
    refine' K01.all_mk KX G hmg ?a0 ?l0 ?c0 ?k0 ?a1 ?l1 ?c1 ?k1 ?a2 ?l2 ?c2 ?k2 ?a3 ?l3 ?c3 ?k3 ?a4 ?l4 ?c4 ?k4 ?a5 ?l5 ?c5 ?k5 ?a6 ?l6 ?c6 ?k6 ?a7 ?l7 ?c7 ?k7 ?a8 ?l8 ?c8 ?k8 ?a9 ?l9 ?c9 ?k9 ?a10 ?l10 ?c10 ?k10 ?a11 ?l11 ?c11 ?k11 ?a12 ?l12 ?c12 ?k12 ?a13 ?l13 ?c13 ?k13 ?a14 ?l14 ?c14 ?k14 ?a15 ?l15 ?c15 ?k15 ?a16 ?l16 ?c16 ?k16 ?a17 ?l17 ?c17 ?k17 ?z_len ?z_range ?z_enumerate ?z_sorted ?z_tuple ?z_list ?z_int ?z_dict ?z_isinstance ?z_all ?z_any ?z_str ?z_bool ?y_FEWEST_DANCERS ?y_MOST_DANCERS ?y_MOST_PLACES ?y_MOST_CHOICES ?y_LONGEST_WORD
    (case a0 => k_is)
    (case l0 => k_is)
    (case c0 => k_is)
    (case k0 => k_is)
    (case a1 => k_is)
    (case l1 => k_is)
    (case c1 => k_is)
    (case k1 => k_is)
    (case a2 => k_is)
    (case l2 => k_is)
    (case c2 => k_is)
    (case k2 => k_is)
    (case a3 => k_is)
    (case l3 => k_is)
    (case c3 => k_is)
    (case k3 => k_is)
    (case a4 => k_is)
    (case l4 => k_is)
    (case c4 => k_is)
    (case k4 => k_is)
    (case a5 => k_is)
    (case l5 => k_is)
    (case c5 => k_is)
    (case k5 => k_is)
    (case a6 => k_is)
    (case l6 => k_is)
    (case c6 => k_is)
    (case k6 => k_is)
    (case a7 => k_is)
    (case l7 => k_is)
    (case c7 => k_is)
    (case k7 => k_is)
    (case a8 => k_is)
    (case l8 => k_is)
    (case c8 => k_is)
    (case k8 => k_is)
    (case a9 => k_is)
    (case l9 => k_is)
    (case c9 => k_is)
    (case k9 => k_is)
    (case a10 => k_is)
    (case l10 => k_is)
    (case c10 => k_is)
    (case k10 => k_is)
    (case a11 => k_is)
    (case l11 => k_is)
    (case c11 => k_is)
    (case k11 => k_is)
    (case a12 => k_is)
    (case l12 => k_is)
    (case c12 => k_is)
    (case k12 => k_is)
    (case a13 => k_is)
    (case l13 => k_is)
    (case c13 => k_is)
    (case k13 => k_is)
    (case a14 => k_is)
    (case l14 => k_is)
    (case c14 => k_is)
    (case k14 => k_is)
    (case a15 => k_is)
    (case l15 => k_is)
    (case c15 => k_is)
    (case k15 => k_is)
    (case a16 => k_is)
    (case l16 => k_is)
    (case c16 => k_is)
    (case k16 => k_is)
    (case a17 => k_is)
    (case l17 => k_is)
    (case c17 => k_is)
    (case k17 => k_is)
    (case z_len => k_is)
    (case z_range => k_is)
    (case z_enumerate => k_is)
    (case z_sorted => k_is)
    (case z_tuple => k_is)
    (case z_list => k_is)
    (case z_int => k_is)
    (case z_dict => k_is)
    (case z_isinstance => k_is)
    (case z_all => k_is)
    (case z_any => k_is)
    (case z_str => k_is)
    (case z_bool => k_is)
    (case y_FEWEST_DANCERS => k_is)
    (case y_MOST_DANCERS => k_is)
    (case y_MOST_PLACES => k_is)
    (case y_MOST_CHOICES => k_is)
    (case y_LONGEST_WORD => k_is)


