import PyProof.Rows.All
import Wide.All
import OpenK.AllK
import Wide.FinOn
import HandS.ForMost
import HandS.Zip
import PyProof.ListMulRoad
import PyProof.FactsAll.tuple_2
import HandS.Base
import HandS.Call
import HandS.List
import HandS.TupMul
import HandS.TupAny
import HandS.Wide
import HandS.Strs
import KE.GoesEnum
import HandS.SetFor
import HandS.Defaults
import HandS.IsInst
import HandS.RaiseMore
import HandS.Lambda
import HandS.Text
import HandS.Head0
import HandS.Head1
import HandS.Head2
import HandS.HeadEnd
import HandS.HeadHook1
import HandS.HeadHook2
import HandS.MakeKwOnly
import HandS.OwnEq
import HandS.FStr
import HandS.Conv
import KE.KCallOwn
import HandS.Codes
import PyProof.InstNe
import HandS.Style
import HandS.Steps
import HandS.HeadHook3
import PyProof.ReprRoads
import KE.KUnpack
import HandS.DictComp
import HandS.ListItems
import HandS.CallSlots
import HandS.TryMany
import HandS.HeadHook4
import PyProof.ExcBaseAll.ValueError
import HandS.WideMore
import KE.SortData
import KE.DataMinMax
import HandS.SortKw
import PyProof.TupleOfSeq
import HandS.SetKeys
import HandS.Deep
import HandS.Flow
import PyProof.IsRules
import HandS.EndTab
import HandS.HeadWalk
import HandS.Iter
import KE.KDictSum
import KE.KDictCopyH
import HandS.WordsDict
import KE.KEqDict
import HandS.ExcInit
import KE.KExcInit
import PyProof.ExcBaseAll.IndexError
import PyProof.ExcBaseAll.OverflowError
import PyProof.ExcBaseAll.ArithmeticError
import HandS.ExcField
import HandS.Set
import HandS.TupSets
import KE.KEqNest
import PyProof.NeKinds
import HandS.Small
import PySem.Challenge.RW_wholemoment_k55_errors_of_readers
set_option Elab.async false
set_option linter.all false
set_option maxRecDepth 100000
set_option maxHeartbeats 0
/-! zip of any two of: a list, a tuple. An inner walk is told by what it does, the zip by its two inner walks. -/
namespace Zp
open PySem
/-- an inner walk: the iterator at it, over the thing at l; st h k: behind k items; its: the items -/
structure Wk (it l : Addr) (st : Heap → Nat → Prop) (its : Nat → Option Value) : Prop where
  nxt : ∀ {prog : Program} {w : World} {A : Around} {E : Value → Shared → Prop} {s : Shared} {k : Nat} {x : Value} {Q : Value → Shared → Prop}, st s.heap k → its k = some x → (∀ g, st g (k + 1) → Heap.SameBut it s.heap g → Q x { s with heap := g }) → wpAny (model prog w) A (Builtin.SmallTypes.nextOf (.ref it)) Q E s
  fin : ∀ {prog : Program} {w : World} {A : Around} {E : Value → Shared → Prop} {s : Shared} {k : Nat} {Q : Value → Shared → Prop}, A.handled = none → st s.heap k → its k = none → (∀ g e, Heap.ExtBut it s.heap g → (∃ o, g.get? e = some o ∧ o.cls = .type "StopIteration") → E (.ref e) { s with heap := g }) → wpAny (model prog w) A (Builtin.SmallTypes.nextOf (.ref it)) Q E s
  mov : ∀ {h g : Heap} {c : Addr} {k : Nat}, st h k → Heap.ExtBut c h g → it ≠ c → l ≠ c → st g k
  thr : ∀ {h : Heap} {k : Nat}, st h k → ∃ o, h.get? it = some o ∧ ∀ v, o.data ≠ .cell v
  at_ : ∀ {h g : Heap} {k : Nat}, st h k → (∀ o, h.get? it = some o → g.get? it = some o) → (∀ o, h.get? l = some o → g.get? l = some o) → st g k
section
variable {prog : Program} {w : World} {A : Around} {E : Value → Shared → Prop} {s : Shared}
variable {z I O p q a b : Addr} {sp sq : Heap → Nat → Prop} {ip iq : Nat → Option Value}
/-- the five objects of a walk, and what they stand upon -/
structure Five (z I O p q a b : Addr) : Prop where
  d : ZipApart z I O p q a b
end
/-! a list and a tuple -/
section
abbrev lt1 (h : Heap) (a : Addr) : Heap := h.push { cls := .type "list_iterator", data := .fields #[.ref a, .int 0 0] }
abbrev lt2 (h : Heap) (a b : Addr) : Heap := (lt1 h a).push { cls := .type "tuple_iterator", data := .fields #[.ref b, .int 0 0] }
abbrev lt3 (h : Heap) (a b : Addr) : Heap := (lt2 h a b).push { cls := .type "tuple", data := .seq #[.ref h.objs.size, .ref (lt1 h a).objs.size] }
abbrev lt4 (h : Heap) (a b : Addr) : Heap := (lt3 h a b).push { cls := .type "tuple", data := .seq #[.none, .none] }
abbrev lt5 (h : Heap) (a b : Addr) : Heap := (lt4 h a b).push { cls := .type "zip", data := .fields #[.none, .bool false, .bool false, .ref (lt2 h a b).objs.size, .ref (lt3 h a b).objs.size] }
variable {prog : Program} {w : World} {A : Around} {E : Value → Shared → Prop} {s : Shared}
end
end Zp
namespace Zp
open PySem PySem.Spec PyProof.Rows L2
/-- new pairs of a list's and a tuple's items -/
def ItM (K : PySem.W.Frag) (a b : Addr) : It where
  go i H := ∃ (xs ys : List V) (x y : V), SqL K H a xs ∧ SqT K H b ys ∧ xs[i]? = some x ∧ ys[i]? = some y
  yld i H v H' := ∃ t x y, v = .ref t ∧ H t = none ∧ H' = upd H t (.tup [x, y]) ∧ (∀ xs, SqL K H a xs → xs[i]? = some x) ∧ ∀ ys, SqT K H b ys → ys[i]? = some y
  stop i H := ∃ xs ys : List V, SqL K H a xs ∧ SqT K H b ys ∧ (xs.length ≤ i ∨ ys.length ≤ i)
def iZipM (K : PySem.W.Frag) (ta : TA) : TI := fun σ H R => ta σ H fun vs H1 => ∃ a b xs ys, vs = [.ref a, .ref b] ∧ SqL K H1 a xs ∧ SqT K H1 b ys ∧ R (ItM K a b) H1
end Zp


set_option Elab.async false
set_option linter.all false
set_option maxRecDepth 100000
set_option maxHeartbeats 0
namespace Tr
open PySem PySem.Spec PyProof.Rows L2
theorem tuple_mul1 (l : Addr) (items : Array Value) (n : Nat) (dd : Option Addr) (sl : Array (Option Value)) (x : Int) (u : Tok) (c0 : (decide (x < -(2 ^ 63)) || decide (x ≥ 2 ^ 63)) = false) (c1 : (items.isEmpty || x == 1) = true) :
    Meets (Builtin.«tuple.__mul__» ⟨[.ref l, .int x u], []⟩) (fun _ R s => s.heap.get? l = some { cls := .type "tuple", dict := dd, data := .seq items n, slots := sl } ∧
      R (.ok (.ret (Value.ref l))) s) :=
  .of_wp fun prog w A R s h => by
    obtain ⟨hp, g, d, tk, os⟩ := s
    obtain ⟨hl, h⟩ := h
    have f1 := AutoSeq1.idx_int
    wp_walk using wpAny_loadPart' hl
    repeat (first
      | (refine wpAny_ite_false (decide_eq_false (by rw [c0]; exact Bool.false_ne_true)) ?_; wp_walk using wpAny_loadPart' hl)
      | (refine wpAny_ite_true (decide_eq_true c1) ?_; wp_walk using wpAny_loadPart' hl))
    exact ⟨_, rfl, h⟩
/-- t * 1 is t -/
def rRep1 (K : PySem.W.Frag) : R2 := fun x y H Q => ∃ l xs, x = .ref l ∧ y = .int 1 ∧ SqT K H l xs ∧ Q (.ref l) H
theorem op_rep1 {X : Cx} : OpR X (binaryOp .Mult) (rRep1 X.K) := by
  intro pins s σ H x y v u Q I rx ry h
  obtain ⟨l, xs, rfl, rfl, hT, q⟩ := h
  cases rx
  obtain ⟨t, rfl⟩ := ry
  obtain ⟨its, r, ⟨⟨cls, dd, data, sl⟩, ho, hc, n, hd⟩, hs⟩ := I.tuple hT
  simp only at hc hd
  subst hc hd
  have c1 : (its.toArray.isEmpty || (1 : Int) == 1) = true := by rw [Bool.or_eq_true]; exact .inr rfl
  refine wpAny_binaryOp_repeat_ref (T := "tuple") (U := "int") (by decide) ⟨_, ho, rfl⟩ (fun s' => typeIs_int s' 1 t) noFill_tuple_mul F.fills_int_mul F.slot_int_rmul repeat_tuple F.slot_int_index.lookup
    (call_meets F.slot_int_rmul (typeIs_int s 1 t) F.entry_int_rmul (F.args_int_rmul_2 _ _) (int_rmul_tuple 1 t l its.toArray n dd sl)
      ⟨ho, rfl, ⟨_, ho, rfl⟩, call_meets F.slot_tuple_mul ⟨_, ho, rfl⟩ F.entry_tuple_mul (F.args_tuple_mul_2 _ _) (tuple_mul1 l its.toArray n dd sl 1 t (by decide) c1) ⟨ho, ?_⟩⟩)
  exact ⟨.ref l, H, I, rfl, q⟩
end Tr


set_option Elab.async false
set_option linter.all false
set_option maxRecDepth 100000
set_option maxHeartbeats 0
/-! max(t), min(t) of a tuple of whole numbers -/
namespace Mx
open PySem PyProof.Rows
section
variable {prog : Program} {w : World} {A : Around} {E : Value → Shared → Prop} {s : Shared} {l : Addr} {xs : Array (Int × Tok)}
abbrev grown (s : Shared) (l : Addr) : Heap := s.heap.push { cls := .type "tuple_iterator", data := .fields #[.ref l, .int 0 0] }
theorem below (hl : s.heap.IsTuple l (intItems xs)) : l < s.heap.objs.size := by
  obtain ⟨_, e, _⟩ := hl
  exact Heap.lt_size e
theorem steps (hl : s.heap.IsTuple l (intItems xs)) : ∀ b ∈ [s.heap.objs.size, l], b < (grown s l).objs.size := by
  intro b hb
  show b < (s.heap.push _).objs.size
  rw [Heap.size_push]
  rcases List.mem_cons.mp hb with e | hb
  · rw [e]
    exact Nat.lt_succ_self _
  · rw [List.mem_singleton.mp hb]
    exact Nat.lt_succ_of_lt (below hl)
theorem stays {h' : Heap} (hk : ∀ b o, b ∉ [s.heap.objs.size] → (grown s l).get? b = some o → h'.get? b = some o) : ∀ b o, s.heap.get? b = some o → h'.get? b = some o := fun b o e => by
  refine hk b o (fun hm => ?_) (Heap.get?_push_of_some _ e)
  have hb : b = s.heap.objs.size := List.mem_singleton.mp hm
  exact absurd (hb ▸ Heap.lt_size e) (Nat.lt_irrefl _)
end
end Mx
namespace Tr
open PySem PySem.Spec PyProof.Rows L2
section
variable {X : Cx}
/-- of a tuple -/
def rMaxT (K : PySem.W.Frag) : List V → Hp → VK → Prop := fun vs H Q => ∃ (p : Addr) (ns : List Int), vs = [.ref p] ∧ SqT K H p (ns.map V.int) ∧ 0 < ns.length ∧ ∀ m, m ∈ ns → (∀ y, y ∈ ns → y ≤ m) → Q (.int m) H
def rMinT (K : PySem.W.Frag) : List V → Hp → VK → Prop := fun vs H Q => ∃ (p : Addr) (ns : List Int), vs = [.ref p] ∧ SqT K H p (ns.map V.int) ∧ 0 < ns.length ∧ ∀ m, m ∈ ns → (∀ y, y ∈ ns → m ≤ y) → Q (.int m) H
end
end Tr


set_option Elab.async false
set_option linter.all false
set_option maxRecDepth 100000
set_option maxHeartbeats 0
/-! enumerate of a tuple. -/
namespace En
open PySem
section
variable {prog : Program} {w : World} {A : Around} {E : Value → Shared → Prop} {s : Shared}
end
end En
namespace En
open PySem PySem.Spec PyProof.Rows L2
/-- the tuple at a, each item in a new pair -/
def ItT (K : PySem.W.Frag) (a : Addr) : It :=
  ⟨fun i H => ∃ (xs : List V) (x : V), SqT K H a xs ∧ xs[i]? = some x, fun i H v H' => ∃ T x, v = .ref T ∧ H T = none ∧ H' = upd H T (.tup [.int (i : Nat), x]) ∧ ∀ xs, SqT K H a xs → xs[i]? = some x, fun i H => ∃ xs : List V, SqT K H a xs ∧ xs.length ≤ i⟩
end En


set_option Elab.async false
set_option linter.all false
set_option maxRecDepth 100000
set_option maxHeartbeats 0
/-! sorted(set(xs)), xs a list of whole numbers -/
namespace SL
open PySem PySem.Spec PyProof.Rows L2
section
variable {P : Program} {w : World} {A : Around} {E : Value → Shared → Prop} {s : Shared}
/-- a type that is called: made, then set up -/
theorem call_two {T newI iniI : String} {vs : List Value} {Q M : Value → Shared → Prop} (tc : TypeCalled T newI iniI) (okA : checkTypeCall T ⟨vs, []⟩ = pure ())
    (mk : codeAny (model P w) A.in1 (.call (.builtin newI) ⟨.type T :: vs, []⟩) (wants M E) s)
    (up : ∀ ob t, M ob t → t.TypeIs ob T ∧ codeAny (model P w) A.in1 (.call (.builtin iniI) ⟨ob :: vs, []⟩) (wants (fun r u => r = .none ∧ Q ob u) E) t) :
    wpAny (model P w) A (call (.type T) vs) Q E s := by
  have ⟨_, _, m0⟩ := tc.mro
  have m1 := tc.made
  have m2 := tc.sub
  have m3 := tc.notType
  have m4 := tc.canCreate
  apply wpAny_call
  apply codeAny_of_tree
  show wpAny _ _ (callAny (.type T) _) _ _ _
  apply wpAny_pure
  refine ⟨Code.quiet_builtin _ (by decide +kernel), ?_⟩
  apply codeAny_builtin PySem.F.entry_type_call
  rw [Around.under_plain (weight_type_call_type T vs []) rfl]
  repeat' (first | assumption | wp_step)
  refine codeAny_mono mk ?_
  intro r t hr
  match r, hr with
  | .ok (.ret ob), hr =>
    obtain ⟨hT, go⟩ := up ob t hr
    have n1 := tc.init.lookup
    have n2 := tc.init.bind ob
    repeat' (first | assumption | wp_step)
    refine codeAny_mono go ?_
    intro r2 u hu
    match r2, hu with
    | .ok (.ret v), hu =>
      obtain ⟨rfl, q⟩ := hu
      repeat' (first | assumption | wp_step)
    | .error e, hu => exact hu
  | .error e, hr => exact hr
/-- an empty set, as set(..) makes it -/
abbrev set0 (w : World) : Obj := { cls := .type "set", dict := none, data := .set #[] 0 (.fresh 0 0 (!w.params.followText "set-order")) }
end
/-- sorted(set(xs)) -/
def tSrt (K : PySem.W.Frag) (ta : TE) : TE := fun σ H Q => ta σ H fun x H1 => ∃ (l : Addr) (ns : List Int), x = .ref l ∧ SqL K H1 l (ns.map V.int) ∧ ns.length < 64 ∧ ∀ (ms : List Int) (p : Addr), ms.Pairwise (· < ·) → (∀ k : Int, k ∈ ms ↔ k ∈ ns) → H1 p = none → Q (.ref p) (upd H1 p (.lst (ms.map V.int)))
end SL


set_option Elab.async false
set_option linter.all false
set_option maxRecDepth 100000
set_option maxHeartbeats 0
/-! Trees: the values of a program's own run as plain data; what stands in the heap is told once. -/
namespace Tr
open PySem PySem.Spec PyProof.Rows L2

/-! ### 1. values as trees -/
inductive T where
  | non | bl (b : Bool) | int (i : Int) | str (x : Str) | tup (ts : List T) | lst (ts : List T) | scr (ts : List T)
  | dct (ks : List Key) (ts : List T) | ins (C : Addr) (ns : List Str) (ts : List T) | ty (n : String)
  | fn (a : Addr) | exc (a d : Addr) (f : Str) (t : T)

/-- an object of the def's own -/
inductive OwnT where
  | lst (ts : List T) | dct (ks : List Key) (ts : List T)
/-- what a slot, an expression holds: a tree, a list of the def's own, the dice -/
inductive Sl where
  | any | val (t : T) | ob (l : Addr) (o : OwnT) | dice
abbrev Sl.own (l : Addr) (ts : List T) : Sl := .ob l (.lst ts)
abbrev Sl.ownd (l : Addr) (ks : List Key) (ts : List T) : Sl := .ob l (.dct ks ts)

abbrev Avoid := List Addr
/-- what A does not name stays -/
def Ext (A : Avoid) (H H' : Hp) : Prop := ∀ a o, a ∉ A → H a = some o → H' a = some o
theorem Ext.refl {A : Avoid} (H : Hp) : Ext A H H := fun _ _ _ h => h
theorem Ext.trans {A : Avoid} {H H1 H2 : Hp} (a : Ext A H H1) (b : Ext A H1 H2) : Ext A H H2 := fun x o n h => b x o n (a x o n h)
theorem Ext.mono {A B : Avoid} {H H' : Hp} (h : ∀ a ∈ A, a ∈ B) (e : Ext A H H') : Ext B H H' := fun a o n q => e a o (fun z => n (h a z)) q
theorem Ext.new {A : Avoid} {H : Hp} {p : Addr} {o : HO} (h : H p = none) : Ext A H (upd H p o) := fun a u _ e => by
  rw [upd_ne (ne_of_none e h)]
  exact e
theorem Ext.mut {A : Avoid} {H : Hp} {p : Addr} {o : HO} (h : p ∈ A) : Ext A H (upd H p o) := fun a u n e => by
  rw [upd_ne (fun z => n (by rw [z]; exact h))]
  exact e

mutual
inductive Rep (K : PySem.W.Frag) (A : Avoid) (H : Hp) : V → T → Prop
  | non : Rep K A H .non .non
  | bl (b : Bool) : Rep K A H (.bl b) (.bl b)
  | int (i : Int) : Rep K A H (.int i) (.int i)
  | str (x : Str) : Rep K A H (.str x) (.str x)
  | ty (n : String) : Rep K A H (.ty n) (.ty n)
  | tup {a : Addr} {vs : List V} {ts : List T} : a ∉ A → H a = some (.tup vs) → RepAll K A H vs ts → Rep K A H (.ref a) (.tup ts)
  | tupK {a : Addr} {vs : List V} {ts : List T} : (∃ (o : Obj) (its : Array Value) (n : Nat), K.lookup a = some o ∧ o.cls = .type "tuple" ∧ o.data = .seq its n ∧ its.size ≤ sizeLine ∧ Vals vs its.toList) → RepAll K A H vs ts → Rep K A H (.ref a) (.tup ts)
  | lst {a : Addr} {vs : List V} {ts : List T} : a ∉ A → H a = some (.lst vs) → RepAll K A H vs ts → Rep K A H (.ref a) (.lst ts)
  | scr {a : Addr} {o : Obj} {vs : List V} {ts : List T} : a ∉ A → H a = some (.frz o (.lst vs)) → RepAll K A H vs ts → Rep K A H (.ref a) (.scr ts)
  | scrK {a : Addr} {vs : List V} {ts : List T} : (∃ (o : Obj) (its : Array Value) (n : Nat), K.lookup a = some o ∧ o.cls = .type "list" ∧ o.dict = none ∧ o.data = .seq its n ∧ its.size ≤ sizeLine ∧ Vals vs its.toList) → RepAll K A H vs ts → Rep K A H (.ref a) (.scr ts)
  | dct {a : Addr} {ks : List Key} {vs : List V} {ts : List T} : a ∉ A → (H a = some (.dK (ks.zip vs)) ∨ ∃ o, H a = some (.frz o (.dK (ks.zip vs)))) → ks.length = vs.length → RepAll K A H vs ts → Rep K A H (.ref a) (.dct ks ts)
  | ins {a dx C : Addr} {ns : List Str} {vs : List V} {ts : List T} : a ∉ A → dx ∉ A → H a = some (.ins C dx (ns.zip vs)) → H dx = some (.own a) → ns.length = vs.length → RepAll K A H vs ts → Rep K A H (.ref a) (.ins C ns ts)
  | fn (a : Addr) : Rep K A H (.ref a) (.fn a)
  | exc {a d : Addr} {f : Str} {v : V} {t : T} : d ∉ A → H d = some (.xd [(f, v)]) → Rep K A H v t → Rep K A H (.ref a) (.exc a d f t)
inductive RepAll (K : PySem.W.Frag) (A : Avoid) (H : Hp) : List V → List T → Prop
  | nil : RepAll K A H [] []
  | cons {v : V} {vs : List V} {t : T} {ts : List T} : Rep K A H v t → RepAll K A H vs ts → RepAll K A H (v :: vs) (t :: ts)
end
section
variable {K : PySem.W.Frag} {A B : Avoid} {H H' : Hp}
mutual
/-- from one heap to a later one, from one list of what is avoided to another -/
theorem Rep.to (e : ∀ a o, a ∉ A → H a = some o → a ∉ B ∧ H' a = some o) : ∀ {v : V} {t : T}, Rep K A H v t → Rep K B H' v t
  | _, _, .non => .non
  | _, _, .bl b => .bl b
  | _, _, .int i => .int i
  | _, _, .str x => .str x
  | _, _, .ty n => .ty n
  | _, _, .tup n h r => .tup (e _ _ n h).1 (e _ _ n h).2 (RepAll.to e r)
  | _, _, .tupK h r => .tupK h (RepAll.to e r)
  | _, _, .lst n h r => .lst (e _ _ n h).1 (e _ _ n h).2 (RepAll.to e r)
  | _, _, .scr n h r => .scr (e _ _ n h).1 (e _ _ n h).2 (RepAll.to e r)
  | _, _, .scrK h r => .scrK h (RepAll.to e r)
  | _, _, .dct n h l r => .dct (h.elim (fun h => (e _ _ n h).1) fun ⟨_, h⟩ => (e _ _ n h).1) (h.elim (fun h => .inl (e _ _ n h).2) fun ⟨o, h⟩ => .inr ⟨o, (e _ _ n h).2⟩) l (RepAll.to e r)
  | _, _, .ins n m h k l r => .ins (e _ _ n h).1 (e _ _ m k).1 (e _ _ n h).2 (e _ _ m k).2 l (RepAll.to e r)
  | _, _, .fn a => .fn a
  | _, _, .exc n h r => .exc (e _ _ n h).1 (e _ _ n h).2 (Rep.to e r)
theorem RepAll.to (e : ∀ a o, a ∉ A → H a = some o → a ∉ B ∧ H' a = some o) : ∀ {vs : List V} {ts : List T}, RepAll K A H vs ts → RepAll K B H' vs ts
  | _, _, .nil => .nil
  | _, _, .cons h r => .cons (Rep.to e h) (RepAll.to e r)
end
theorem Rep.mono {v : V} {t : T} (e : Ext A H H') (h : Rep K A H v t) : Rep K A H' v t := h.to fun a o n q => ⟨n, e a o n q⟩
theorem RepAll.mono {v : List V} {t : List T} (e : Ext A H H') (h : RepAll K A H v t) : RepAll K A H' v t := h.to fun a o n q => ⟨n, e a o n q⟩
theorem Rep.sub {v : V} {t : T} (s : ∀ a ∈ B, a ∈ A) (h : Rep K A H v t) : Rep K B H v t := h.to fun a o n q => ⟨fun z => n (s a z), q⟩
theorem RepAll.sub {v : List V} {t : List T} (s : ∀ a ∈ B, a ∈ A) (h : RepAll K A H v t) : RepAll K B H v t := h.to fun a o n q => ⟨fun z => n (s a z), q⟩
theorem Rep.more {v : V} {t : T} {p : Addr} (hp : H p = none) (h : Rep K A H v t) : Rep K (p :: A) H v t := h.to fun a o n q => ⟨fun z => by
  rcases List.mem_cons.mp z with z | z
  · subst z; rw [hp] at q; cases q
  · exact n z, q⟩
theorem RepAll.more {v : List V} {t : List T} {p : Addr} (hp : H p = none) (h : RepAll K A H v t) : RepAll K (p :: A) H v t := h.to fun a o n q => ⟨fun z => by
  rcases List.mem_cons.mp z with z | z
  · subst z; rw [hp] at q; cases q
  · exact n z, q⟩
theorem RepAll.length : ∀ {vs : List V} {ts : List T}, RepAll K A H vs ts → vs.length = ts.length
  | _, _, .nil => rfl
  | _, _, .cons _ r => congrArg (· + 1) (RepAll.length r)
theorem RepAll.get : ∀ {vs : List V} {ts : List T} {i : Nat} {t : T}, RepAll K A H vs ts → ts[i]? = some t → ∃ v, vs[i]? = some v ∧ Rep K A H v t
  | _, _, i, _, .nil, h => by simp at h
  | _, _, 0, _, .cons h r, e => by simp at e; subst e; exact ⟨_, rfl, h⟩
  | _, _, i + 1, _, .cons h r, e => by
    obtain ⟨v, h1, h2⟩ := RepAll.get (i := i) r (by simpa using e)
    exact ⟨v, by simpa using h1, h2⟩
theorem RepAll.append : ∀ {vs : List V} {ts : List T} {ws : List V} {us : List T}, RepAll K A H vs ts → RepAll K A H ws us → RepAll K A H (vs ++ ws) (ts ++ us)
  | _, _, _, _, .nil, s => s
  | _, _, _, _, .cons h r, s => .cons h (RepAll.append r s)
theorem RepAll.drop : ∀ {vs : List V} {ts : List T} (n : Nat), RepAll K A H vs ts → RepAll K A H (vs.drop n) (ts.drop n)
  | _, _, 0, r => r
  | _, _, _ + 1, .nil => .nil
  | _, _, n + 1, .cons _ r => RepAll.drop n r
theorem RepAll.take : ∀ {vs : List V} {ts : List T} (n : Nat), RepAll K A H vs ts → RepAll K A H (vs.take n) (ts.take n)
  | _, _, 0, _ => .nil
  | _, _, _ + 1, .nil => .nil
  | _, _, n + 1, .cons h r => .cons h (RepAll.take n r)
theorem RepAll.set {v : V} {t : T} (h : Rep K A H v t) : ∀ {vs : List V} {ts : List T} (n : Nat), RepAll K A H vs ts → RepAll K A H (vs.set n v) (ts.set n t)
  | _, _, _, .nil => .nil
  | _, _, 0, .cons _ r => .cons h r
  | _, _, n + 1, .cons q r => .cons q (RepAll.set h n r)
theorem RepAll.rep {vs : List V} {ts : List T} (h : RepAll K A H vs ts) : ∀ n : Nat, RepAll K A H (List.replicate n vs).flatten (List.replicate n ts).flatten
  | 0 => .nil
  | n + 1 => by
    rw [List.replicate_succ, List.replicate_succ, List.flatten_cons, List.flatten_cons]
    exact h.append (RepAll.rep h n)
theorem RepAll.bls : ∀ {vs : List V} {ns : List Bool}, RepAll K A H vs (ns.map T.bl) → vs = ns.map V.bl
  | _, [], .nil => rfl
  | _, n :: ns, .cons h r => by
    cases h
    rw [RepAll.bls r]
    rfl
end

/-! ### 2. what may be read of a value: its own object, what is in it as trees -/
inductive RepS (K : PySem.W.Frag) (A : Avoid) (H : Hp) : V → T → Prop
  | of {v : V} {t : T} : Rep K A H v t → RepS K A H v t
  | own {l : Addr} {vs : List V} {ts : List T} : H l = some (.lst vs) → RepAll K A H vs ts → RepS K A H (.ref l) (.lst ts)
  | ownd {l : Addr} {ks : List Key} {vs : List V} {ts : List T} : H l = some (.dK (ks.zip vs)) → ks.length = vs.length → RepAll K A H vs ts → RepS K A H (.ref l) (.dct ks ts)
section
variable {K : PySem.W.Frag} {A B : Avoid} {H H' : Hp} {v : V} {ts : List T}
theorem RepS.tup (h : RepS K A H v (.tup ts)) : ∃ a vs, v = .ref a ∧ SqT K H a vs ∧ RepAll K A H vs ts := by
  cases h with
  | of h => cases h with
    | tup n h r => exact ⟨_, _, rfl, .inl (.inl h), r⟩
    | tupK h r => exact ⟨_, _, rfl, .inr h, r⟩
theorem RepS.lst (h : RepS K A H v (.lst ts)) : ∃ a vs, v = .ref a ∧ H a = some (.lst vs) ∧ RepAll K A H vs ts := by
  cases h with
  | of h => cases h with
    | lst n h r => exact ⟨_, _, rfl, h, r⟩
  | own h r => exact ⟨_, _, rfl, h, r⟩
theorem RepS.dct {ks : List Key} (h : RepS K A H v (.dct ks ts)) : ∃ a vs, v = .ref a ∧ Rd H a (.dK (ks.zip vs)) ∧ ks.length = vs.length ∧ RepAll K A H vs ts := by
  cases h with
  | of h => cases h with
    | dct n h l r => exact ⟨_, _, rfl, h, l, r⟩
  | ownd h l r => exact ⟨_, _, rfl, .inl h, l, r⟩
theorem RepS.scr (h : RepS K A H v (.scr ts)) : ∃ a vs, v = .ref a ∧ SqL K H a vs ∧ RepAll K A H vs ts := by
  cases h with
  | of h => cases h with
    | scr n h r => exact ⟨_, _, rfl, .inl (.inr ⟨_, h⟩), r⟩
    | scrK h r => exact ⟨_, _, rfl, .inr h, r⟩
theorem RepS.int {i : Int} (h : RepS K A H v (.int i)) : v = .int i := by cases h with | of h => cases h; rfl
theorem RepS.bl {i : Bool} (h : RepS K A H v (.bl i)) : v = .bl i := by cases h with | of h => cases h; rfl
theorem RepS.str {i : Str} (h : RepS K A H v (.str i)) : v = .str i := by cases h with | of h => cases h; rfl
theorem RepS.ty {i : String} (h : RepS K A H v (.ty i)) : v = .ty i := by cases h with | of h => cases h; rfl
theorem RepS.non (h : RepS K A H v .non) : v = .non := by cases h with | of h => cases h; rfl
end
/-- a list of the trees of a readable sequence -/
def T.seq : T → Option (List T)
  | .tup ts => some ts
  | .lst ts => some ts
  | .scr ts => some ts
  | _ => none
theorem RepS.seq {K : PySem.W.Frag} {A : Avoid} {H : Hp} {v : V} {t : T} {ts : List T} (h : RepS K A H v t) (e : t.seq = some ts) : ∃ a vs, v = .ref a ∧ (SqL K H a vs ∨ SqT K H a vs) ∧ RepAll K A H vs ts := by
  cases t <;> simp only [T.seq] at e <;> cases e
  · obtain ⟨a, vs, e, h, r⟩ := h.tup; exact ⟨a, vs, e, .inr h, r⟩
  · obtain ⟨a, vs, e, h, r⟩ := h.lst; exact ⟨a, vs, e, .inl (.inl (.inl h)), r⟩
  · obtain ⟨a, vs, e, h, r⟩ := h.scr; exact ⟨a, vs, e, .inl h, r⟩

/-! ### 3. the state of a def's body -/
def DiceAt (H : Hp) (d : Addr) : Prop := ∃ a b c : Int, H d = some (.lst [.int a, .int b, .int c])
/-- the tables of code objects that lambdas write -/
class Tabl where
  T : List (Addr × Str)
  uniq : ∀ p ∈ T, ∀ r ∈ T, p.1 = r.1 → p.2 = r.2
variable [Tabl]
/-- the dice, or a table of code objects -/
def MovAt (H : Hp) (d : Addr) : Prop := DiceAt H d ∨ ∃ q, (d, q) ∈ Tabl.T ∧ LamX.TabS H d q
def Keep (H H' : Hp) (d : Addr) : Prop := (DiceAt H d → DiceAt H' d) ∧ ∀ q, (d, q) ∈ Tabl.T → LamX.TabS H d q → LamX.TabS H' d q
theorem Keep.refl {H : Hp} {d : Addr} : Keep H H d := ⟨fun x => x, fun _ _ x => x⟩
theorem Keep.trans {H H1 H' : Hp} {d : Addr} (a : Keep H H1 d) (b : Keep H1 H' d) : Keep H H' d := ⟨fun x => b.1 (a.1 x), fun q m x => b.2 q m (a.2 q m x)⟩
theorem Keep.of {H H' : Hp} {d : Addr} (e : ∀ b o, H b = some o → H' b = some o) : Keep H H' d := ⟨fun ⟨a, b, c, h⟩ => ⟨a, b, c, e _ _ h⟩, fun _ _ t => t.ext e⟩
theorem MovAt.keep {H H' : Hp} {d : Addr} (m : MovAt H d) (k : Keep H H' d) : MovAt H' d := by
  rcases m with m | ⟨q, g, m⟩
  · exact .inl (k.1 m)
  · exact .inr ⟨q, g, k.2 q g m⟩
theorem Keep.new {H : Hp} {d p : Addr} {o : HO} (hp : H p = none) : Keep H (upd H p o) d := .of fun b u e => by rw [upd_ne (ne_of_none e hp)]; exact e
theorem Keep.upd {H : Hp} {d l : Addr} {o : HO} (n : d ≠ l) (hx : ∀ φ, H l ≠ some (.ext φ)) : Keep H (upd H l o) d := ⟨fun ⟨a, b, c, h⟩ => ⟨a, b, c, by rw [upd_ne n]; exact h⟩, fun q _ ⟨ps, h1, h2, h3⟩ => ⟨ps, by rw [upd_ne n]; exact h1, h2, fun pos cv hc => by
  obtain ⟨c, e1, e2⟩ := h3 pos cv hc
  exact ⟨c, e1, by rw [upd_ne (fun z => hx _ (by rw [← z]; exact e2))]; exact e2⟩⟩⟩
theorem DiceAt.alive {H : Hp} {d : Addr} : DiceAt H d → ∃ u, H d = some u := fun ⟨_, _, _, h⟩ => ⟨_, h⟩
theorem MovAt.alive {H : Hp} {d : Addr} : MovAt H d → ∃ u, H d = some u := fun m => by
  rcases m with m | ⟨q, _, ps, h, _⟩
  · exact m.alive
  · exact ⟨_, h⟩
theorem MovAt.here {H : Hp} {d : Addr} (m : MovAt H d) : H d ≠ none := fun q => by
  obtain ⟨u, e⟩ := m.alive
  rw [e] at q; cases q
/-- what an object of the def's own is -/
def OwnAt (K : PySem.W.Frag) (A : Avoid) (H : Hp) (l : Addr) : OwnT → Prop
  | .lst ts => ∃ vs, H l = some (.lst vs) ∧ RepAll K A H vs ts
  | .dct ks ts => ∃ vs, H l = some (.dK (ks.zip vs)) ∧ ks.length = vs.length ∧ RepAll K A H vs ts
def SlOk (K : PySem.W.Frag) (D A0 A : Avoid) (H : Hp) (v : V) : Sl → Prop
  | .any => True
  | .val t => Rep K A H v t
  | .ob l o => v = .ref l ∧ l ∈ A ∧ l ∉ A0 ∧ l ∉ D ∧ OwnAt K A H l o
  | .dice => ∃ d, v = .ref d ∧ d ∈ D ∧ DiceAt H d
def Slot (K : PySem.W.Frag) (D A0 A : Avoid) (H : Hp) (o : Option V) (x : Sl) : Prop := x = .any ∨ ∃ v, o = some v ∧ SlOk K D A0 A H v x
abbrev Slots (K : PySem.W.Frag) (D A0 A : Avoid) (H : Hp) : L2.St → List Sl → Prop := Paired (Slot K D A0 A H)
/-- lists of one's own in unlike slots are unlike -/
def Dist (sl : List Sl) : Prop := ∀ (i j : Nat) (l l' : Addr) (ts ts' : OwnT), sl[i]? = some (Sl.ob l ts) → sl[j]? = some (Sl.ob l' ts') → i ≠ j → l ≠ l'
/-- what a def's body stands upon: the dice, what is avoided and the heap at its entry; values that are held aside -/
structure Fx where
  D0 : Avoid
  A0 : Avoid
  H0 : Hp
  G : List (V × T)
  L : List (Addr × Obj × List (Key × V))
def TabF (D : Avoid) (H : Hp) : Prop := ∀ p ∈ Tabl.T, p.1 ∈ D ∧ LamX.TabS H p.1 p.2
structure Liv (D A : Avoid) (H : Hp) : Prop where
  alive : ∀ a ∈ A, H a ≠ none
  tabs : TabF D H
structure Sta (K : PySem.W.Frag) (F : Fx) (D A : Avoid) (H : Hp) (σ : L2.St) (sl : List Sl) : Prop where
  dice : ∀ d ∈ D, MovAt H d
  dA : ∀ d ∈ D, d ∈ A
  sub : ∀ a ∈ F.A0, a ∈ A
  alive : ∀ a ∈ A, H a ≠ none
  base : ∀ a ∈ A, a ∈ F.A0 ∨ F.H0 a = none
  dbase : ∀ d ∈ D, d ∈ F.D0 ∨ F.H0 d = none
  dsub : ∀ d ∈ F.D0, d ∈ D
  keep : ∀ d ∈ F.D0, Keep F.H0 H d
  tabs : TabF F.D0 F.H0
  ext : Ext F.D0 F.H0 H
  slots : Slots K D F.A0 A H σ sl
  dist : Dist sl
  gh : ∀ p ∈ F.G, Rep K A H p.1 p.2
  lk : ∀ p ∈ F.L, p.1 ∉ A ∧ H p.1 = some (.frz p.2.1 (.dK p.2.2))
/-- behind an expression: nothing but the dice changed -/
structure Beh (D : Avoid) (H H' : Hp) : Prop where
  ext : Ext D H H'
  dice : ∀ d ∈ D, Keep H H' d
section
variable {K : PySem.W.Frag} {F : Fx} {A0 D A B : Avoid} {H H' H1 : Hp} {σ : L2.St} {sl : List Sl} {v : V} {x : Sl} {i : Nat}
theorem ext_da (d : ∀ a ∈ D, a ∈ A) (e : Ext D H H') : Ext A H H' := e.mono d
theorem OwnAt.map {A' : Avoid} {l : Addr} (e1 : ∀ o, H l = some o → H' l = some o) (f : ∀ vs ts, RepAll K A H vs ts → RepAll K A' H' vs ts) : ∀ {o : OwnT}, OwnAt K A H l o → OwnAt K A' H' l o
  | .lst ts, ⟨vs, h5, h6⟩ => ⟨vs, e1 _ h5, f _ _ h6⟩
  | .dct ks ts, ⟨vs, h5, hl, h6⟩ => ⟨vs, e1 _ h5, hl, f _ _ h6⟩
theorem OwnAt.alive {l : Addr} : ∀ {o : OwnT}, OwnAt K A H l o → ∃ u, H l = some u
  | .lst _, ⟨_, h, _⟩ => ⟨_, h⟩
  | .dct _ _, ⟨_, h, _, _⟩ => ⟨_, h⟩
theorem OwnAt.noext {l : Addr} {o : OwnT} (h : OwnAt K A H l o) (φ : Heap → Prop) : H l ≠ some (.ext φ) := fun z => by
  cases o with
  | lst _ =>
    obtain ⟨_, g, _⟩ := h
    rw [g] at z; cases z
  | dct _ _ =>
    obtain ⟨_, g, _⟩ := h
    rw [g] at z; cases z
def OwnT.tree : OwnT → T
  | .lst ts => .lst ts
  | .dct ks ts => .dct ks ts
theorem OwnAt.rep {A' : Avoid} {l : Addr} (hl : l ∉ A') (f : ∀ vs ts, RepAll K A H vs ts → RepAll K A' H vs ts) : ∀ {o : OwnT}, OwnAt K A H l o → Rep K A' H (.ref l) o.tree
  | .lst ts, ⟨vs, h5, h6⟩ => Rep.lst hl h5 (f _ _ h6)
  | .dct ks ts, ⟨vs, h5, h, h6⟩ => Rep.dct hl (.inl h5) h (f _ _ h6)
theorem OwnAt.mono {l : Addr} (e1 : ∀ o, H l = some o → H' l = some o) (e : Ext A H H') : ∀ {o : OwnT}, OwnAt K A H l o → OwnAt K A H' l o
  | .lst ts, ⟨vs, h5, h6⟩ => ⟨vs, e1 _ h5, h6.mono e⟩
  | .dct ks ts, ⟨vs, h5, hl, h6⟩ => ⟨vs, e1 _ h5, hl, h6.mono e⟩
theorem SlOk.mono (d : ∀ a ∈ D, a ∈ A) (e : Beh D H H') : ∀ {x : Sl}, SlOk K D A0 A H v x → SlOk K D A0 A H' v x
  | .any, _ => trivial
  | .val t, h => Rep.mono (ext_da d e.ext) h
  | .ob l o, ⟨h1, h2, h3, h4, h5⟩ => ⟨h1, h2, h3, h4, h5.mono (fun o q => e.ext _ _ h4 q) (ext_da d e.ext)⟩
  | .dice, ⟨a, h1, h2, h3⟩ => ⟨a, h1, h2, (e.dice a h2).1 h3⟩
theorem Paired.imp {α β : Type} {R S : α → β → Prop} (f : ∀ a b, R a b → S a b) : ∀ {xs : List α} {ys : List β}, Paired R xs ys → Paired S xs ys
  | _, _, .nil => .nil
  | _, _, .cons h r => .cons (f _ _ h) (Paired.imp f r)
theorem Paired.at {α β : Type} {R : α → β → Prop} : ∀ {xs : List α} {ys : List β} {i : Nat} {y : β}, Paired R xs ys → ys[i]? = some y → ∃ x, xs[i]? = some x ∧ R x y
  | _, _, i, _, .nil, h => by simp at h
  | _, _, 0, _, .cons h r, e => by simp at e; subst e; exact ⟨_, rfl, h⟩
  | _, _, i + 1, _, .cons h r, e => by
    obtain ⟨v, h1, h2⟩ := Paired.at (i := i) r (by simpa using e)
    exact ⟨v, by simpa using h1, h2⟩
theorem Paired.setP {α β : Type} {R : α → β → Prop} {x : α} {y : β} (h : R x y) : ∀ {xs : List α} {ys : List β} (i : Nat), Paired R xs ys → Paired R (xs.set i x) (ys.set i y)
  | _, _, _, .nil => .nil
  | _, _, 0, .cons _ r => .cons h r
  | _, _, n + 1, .cons q r => .cons q (Paired.setP h n r)
theorem Slots.mono (d : ∀ a ∈ D, a ∈ A) (e : Beh D H H') (h : Slots K D A0 A H σ sl) : Slots K D A0 A H' σ sl := Paired.imp (fun o x q => by
  rcases q with q | ⟨v, q1, q2⟩
  · exact .inl q
  · exact .inr ⟨v, q1, q2.mono d e⟩) h
theorem Sta.beh (S : Sta K F D A H σ sl) (b : Beh D H H') : Sta K F D A H' σ sl where
  dice := fun d hd => (S.dice d hd).keep (b.dice d hd)
  dA := S.dA
  sub := S.sub
  alive := fun a ha q => by
    by_cases hd : a ∈ D
    · exact ((S.dice a hd).keep (b.dice a hd)).here q
    · cases e : H a with
      | none => exact S.alive a ha e
      | some o => rw [b.ext a o hd e] at q; cases q
  base := S.base
  dbase := S.dbase
  dsub := S.dsub
  keep := fun d hd => (S.keep d hd).trans (b.dice d (S.dsub d hd))
  tabs := S.tabs
  ext := fun a o n q => by
    by_cases hd : a ∈ D
    · rcases S.dbase a hd with z | z
      · exact absurd z n
      · rw [z] at q; cases q
    · exact b.ext a o hd (S.ext a o n q)
  slots := S.slots.mono S.dA b
  dist := S.dist
  gh := fun p hp => (S.gh p hp).mono (ext_da S.dA b.ext)
  lk := fun p hp => ⟨(S.lk p hp).1, b.ext _ _ (fun z => (S.lk p hp).1 (S.dA _ z)) (S.lk p hp).2⟩
theorem Sta.liv (S : Sta K F D A H σ sl) : Liv D A H := ⟨S.alive, fun p hp => ⟨S.dsub _ (S.tabs p hp).1, (S.keep _ (S.tabs p hp).1).2 _ hp (S.tabs p hp).2⟩⟩
theorem Beh.refl (S : Sta K F D A H σ sl) : Beh D H H := ⟨Ext.refl H, fun _ _ => Keep.refl⟩
theorem Beh.trans (a : Beh D H H1) (b : Beh D H1 H') : Beh D H H' := ⟨a.ext.trans b.ext, fun d hd => (a.dice d hd).trans (b.dice d hd)⟩
theorem Beh.of_ext (S : Sta K F D A H σ sl) (e : Ext [] H H') : Beh D H H' := ⟨e.mono (by intro a z; cases z), fun d hd => Keep.of fun b o q => e b o (by intro z; cases z) q⟩
theorem Sta.get (S : Sta K F D A H σ sl) (h : sl[i]? = some x) (hx : x ≠ .any) : ∃ v, σ[i]? = some (some v) ∧ SlOk K D F.A0 A H v x := by
  obtain ⟨o, h1, h2⟩ := Paired.at S.slots h
  rcases h2 with z | ⟨v, rfl, q⟩
  · exact absurd z hx
  · exact ⟨v, h1, q⟩
end
/-- the tree of what a slot holds, as it can be read -/
def Sl.tree : Sl → Option T
  | .val t => some t
  | .ob _ (.lst ts) => some (.lst ts)
  | .ob _ (.dct ks ts) => some (.dct ks ts)
  | _ => none
theorem SlOk.reads {K : PySem.W.Frag} {D A0 A : Avoid} {H : Hp} {v : V} {x : Sl} {t : T} (h : SlOk K D A0 A H v x) (e : x.tree = some t) : RepS K A H v t := by
  match x, h, e with
  | .val u, h, e => cases e; exact .of h
  | .ob l (.lst ts), h, e =>
    cases e
    obtain ⟨rfl, _, _, _, vs, h1, h2⟩ := h
    exact .own h1 h2
  | .ob l (.dct ks ts), h, e =>
    cases e
    obtain ⟨rfl, _, _, _, vs, h1, h3, h2⟩ := h
    exact .ownd h1 h3 h2

/-! ### 4. readings of trees -/
abbrev WE := List Sl → (Sl → Prop) → Prop
abbrev WT := List Sl → (Bool → Prop) → Prop
abbrev WA := List Sl → (List Sl → Prop) → Prop
abbrev WF := List Sl → (Sl → Prop) → Prop
structure Ks where
  nx : List Sl → Prop
  rt : Sl → Prop
  bk : List Sl → Prop
  ct : List Sl → Prop
abbrev WS := Ks → List Sl → Prop

def eOf (K : PySem.W.Frag) (w : WE) : TE := fun σ H Q => ∃ F D A sl P, Sta K F D A H σ sl ∧ w sl P ∧ ∀ v H' x, Beh D H H' → SlOk K D F.A0 A H' v x → P x → Q v H'
def tOf (K : PySem.W.Frag) (w : WT) : TT := fun σ H Q => ∃ F D A sl P, Sta K F D A H σ sl ∧ w sl P ∧ ∀ b H', Beh D H H' → P b → Q b H'
def aOf (K : PySem.W.Frag) (w : WA) : TA := fun σ H Q => ∃ F D A sl P, Sta K F D A H σ sl ∧ w sl P ∧ ∀ vs H' xs, Beh D H H' → Paired (SlOk K D F.A0 A H') vs xs → P xs → Q vs H'
def sOf (K : PySem.W.Frag) (w : WS) : TS := fun E σ H => ∃ F D A sl k, Sta K F D A H σ sl ∧ w k sl ∧
  (∀ D' A' H' σ' sl', Sta K F D' A' H' σ' sl' → k.nx sl' → E.nx σ' H') ∧ (∀ D' A' H' σ' sl', Sta K F D' A' H' σ' sl' → k.bk sl' → E.bk σ' H') ∧ (∀ D' A' H' σ' sl', Sta K F D' A' H' σ' sl' → k.ct sl' → E.ct σ' H') ∧
  (∀ D' A' H' σ' sl' v x, Sta K F D' A' H' σ' sl' → SlOk K D' F.A0 A' H' v x → k.rt x → E.rt v H')
abbrev GE (X : Cx) (e : Expr) (w : WE) : Prop := PE X e (eOf X.K w)
abbrev GT (X : Cx) (e : Expr) (w : WT) : Prop := PT X e (tOf X.K w)
abbrev GW (X : Cx) (e : Expr) (w : WT) : Prop := PW X e (tOf X.K w)
abbrev GA (X : Cx) (es : List Expr) (w : WA) : Prop := PA X es (aOf X.K w)
abbrev GS (X : Cx) (st : Stmt) (w : WS) : Prop := PS X st (sOf X.K w)
abbrev GSs (X : Cx) (sts : List Stmt) (w : WS) : Prop := PSs X sts (sOf X.K w)
def SE (K : PySem.W.Frag) (t : TE) (w : WE) : Prop := ∀ F D A H σ sl P Q, Sta K F D A H σ sl → w sl P → (∀ v H' x, Beh D H H' → SlOk K D F.A0 A H' v x → P x → Q v H') → t σ H Q
def ST (K : PySem.W.Frag) (t : TT) (w : WT) : Prop := ∀ F D A H σ sl P Q, Sta K F D A H σ sl → w sl P → (∀ b H', Beh D H H' → P b → Q b H') → t σ H Q
def SA (K : PySem.W.Frag) (t : TA) (w : WA) : Prop := ∀ F D A H σ sl P Q, Sta K F D A H σ sl → w sl P → (∀ vs H' xs, Beh D H H' → Paired (SlOk K D F.A0 A H') vs xs → P xs → Q vs H') → t σ H Q
end Tr


set_option Elab.async false
set_option linter.all false
set_option maxRecDepth 100000
set_option maxHeartbeats 0
namespace Tr
open PySem PySem.Spec PyProof.Rows L2
variable [Tabl]
section
variable {X : Cx} {K : PySem.W.Frag}

/-! ### 5. from the layer's readings to trees -/
theorem ge_of {e : Expr} {t : TE} {w : WE} (h : PE X e t) (s : SE X.K t w) : GE X e w := ⟨fun pins st σ H Q I ⟨F, D, A, sl, P, S, hw, q⟩ => h.run pins st σ H Q I (s F D A H σ sl P Q S hw q)⟩
theorem gt_of {e : Expr} {t : TT} {w : WT} (h : PT X e t) (s : ST X.K t w) : GT X e w := ⟨fun pins st σ H Q I ⟨F, D, A, sl, P, S, hw, q⟩ => h.run pins st σ H Q I (s F D A H σ sl P Q S hw q)⟩
theorem gw_of {e : Expr} {t : TT} {w : WT} (h : PW X e t) (s : ST X.K t w) : GW X e w := ⟨fun wh pins st σ H Q I ⟨F, D, A, sl, P, S, hw, q⟩ => h.run wh pins st σ H Q I (s F D A H σ sl P Q S hw q)⟩
theorem ga_of {e : List Expr} {t : TA} {w : WA} (h : PA X e t) (s : SA X.K t w) : GA X e w := ⟨fun p pins st σ H Q I ⟨F, D, A, sl, P, S, hw, q⟩ => h.run p pins st σ H Q I (s F D A H σ sl P Q S hw q)⟩
theorem GW.gt {e : Expr} {w : WT} (h : GW X e w) : GT X e w := PW.pt h
theorem st_self {w : WT} : ST K (tOf K w) w := fun F D A H σ sl P Q S hw q => ⟨F, D, A, sl, P, S, hw, q⟩
/-! ### names and constants -/
def nth (sl : List Sl) (i : Nat) : Sl := (sl[i]?).getD .any
def wVar (i : Nat) : WE := fun sl P => nth sl i ≠ .any ∧ P (nth sl i)
theorem se_var {i : Nat} : SE K (tVar i) (wVar i) := fun F D A H σ sl P Q S hw q => by
  obtain ⟨h1, h2⟩ := hw
  unfold nth at h1 h2
  cases e : sl[i]? with
  | none => rw [e] at h1; exact absurd rfl h1
  | some x =>
    rw [e] at h1 h2
    obtain ⟨v, hv, ok⟩ := S.get e h1
    exact ⟨v, hv, q v H _ (Beh.refl S) ok h2⟩
theorem ge_var (i : Nat) {x : Str} {pos : Pos} (hN : X.N[i]? = some x := by rfl) (hv : Vis X.env.scope x := by first | exact Or.inl rfl | exact Or.inr (Or.inl rfl) | exact Or.inr (Or.inr rfl)) (hd : (x == ("__debug__" : Str)) = false := by decide)
    (hcd : (x == ("__classdict__" : Str)) = false := by decide) : GE X (.Name x pos) (wVar i) := ge_of (pe_var hN hv hd hcd) se_var
def wC (t : T) : WE := fun _ P => P (.val t)
/-- a constant's tree -/
inductive CT : V → T → Prop
  | non : CT .non .non | bl (b : Bool) : CT (.bl b) (.bl b) | int (i : Int) : CT (.int i) (.int i) | str (x : Str) : CT (.str x) (.str x) | ty (n : String) : CT (.ty n) (.ty n)
theorem CT.rep {v : V} {t : T} {A : Avoid} {H : Hp} (c : CT v t) : Rep K A H v t := by
  cases c
  · exact .non
  · exact .bl _
  · exact .int _
  · exact .str _
  · exact .ty _
theorem se_c {v : V} {t : T} (c : CT v t) : SE K (tC v) (wC t) := fun F D A H σ sl P Q S hw q => q v H (.val t) (Beh.refl S) c.rep hw
theorem ge_int {i j pos} : GE X (.Constant (.int i) j pos) (wC (.int i)) := ge_of pe_int (se_c (.int i))
theorem ge_bl {b j pos} : GE X (.Constant (.bool b) j pos) (wC (.bl b)) := ge_of pe_bl (se_c (.bl b))
theorem ge_non {j pos} : GE X (.Constant .none j pos) (wC .non) := ge_of pe_non (se_c .non)
theorem ge_str {x j pos} : GE X (.Constant (.str x) j pos) (wC (.str x)) := ge_of pe_str (se_c (.str x))
theorem ge_globI {x : Str} {i : Int} {pos : Pos} (hg : Gl X x) (hm : ∃ t, X.mg x = some (.int i t)) (hd : (x == ("__debug__" : Str)) = false := by decide) : GE X (.Name x pos) (wC (.int i)) := by
  obtain ⟨t, hm⟩ := hm
  exact ge_of (pe_glob (v := .int i) hg hm ⟨t, rfl⟩ hd) (se_c (.int i))
theorem ge_globS {x : Str} {i : Str} {pos : Pos} (hg : Gl X x) (hm : ∃ t, X.mg x = some (.str i t)) (hd : (x == ("__debug__" : Str)) = false := by decide) : GE X (.Name x pos) (wC (.str i)) := by
  obtain ⟨t, hm⟩ := hm
  exact ge_of (pe_glob (v := .str i) hg hm ⟨t, rfl⟩ hd) (se_c (.str i))
theorem ge_ty {x : Str} {n : String} {pos : Pos} (hg : Gl X x) (hm : X.mg x = none) (hv : bootBuiltins x = some (.type n)) (hn : x ≠ "__name__" := by decide) (hd : (x == ("__debug__" : Str)) = false := by decide) : GE X (.Name x pos) (wC (.ty n)) :=
  ge_of (pe_bltn (v := .ty n) hg hm hv rfl hn hd) (se_c (.ty n))

/-! ### operators -/
def SOp (K : PySem.W.Frag) (r : R2) (f : T → T → Option T) : Prop := ∀ (A : Avoid) (H : Hp) (u v : V) (x y z : T) (Q : VK), (∀ a ∈ A, H a ≠ none) → RepS K A H u x → RepS K A H v y → f x y = some z → (∀ w H', Ext [] H H' → Rep K A H' w z → Q w H') → r u v H Q
def wOp (f : T → T → Option T) (a b : WE) : WE := fun sl P => a sl fun x => b sl fun y => ∃ s t z, x.tree = some s ∧ y.tree = some t ∧ f s t = some z ∧ P (.val z)
theorem se_op {r : R2} {f : T → T → Option T} {wa wb : WE} (h : SOp K r f) : SE K (tOp r (eOf K wa) (eOf K wb)) (wOp f wa wb) := fun F D A H σ sl P Q S hw q =>
  ⟨F, D, A, sl, _, S, hw, fun u H1 x b1 ok1 hx => ⟨F, D, A, sl, _, S.beh b1, hx, fun v H2 y b2 ok2 hy => by
    obtain ⟨s, t, z, e1, e2, e3, hp⟩ := hy
    have S2 := (S.beh b1).beh b2
    refine h A H2 u v s t z Q S2.alive ((ok1.mono S.dA b2).reads e1) (ok2.reads e2) e3 fun w H3 e rz => ?_
    exact q w H3 (.val z) ((b1.trans b2).trans (Beh.of_ext S2 e)) rz hp⟩⟩
theorem ge_op {op : Operator} {r : R2} {f : T → T → Option T} {a b : Expr} {wa wb : WE} {pos : Pos} (ho : OpR X (binaryOp op) r) (h : SOp X.K r f) (ha : GE X a wa) (hb : GE X b wb) : GE X (.BinOp a op b pos) (wOp f wa wb) := ge_of (pe_op ho ha hb) (se_op h)
theorem ge_cmp {op : CmpOp} {r : R2} {f : T → T → Option T} {a b : Expr} {wa wb : WE} {pos : Pos} (ho : OpR X (compareOp op) r) (h : SOp X.K r f) (ha : GE X a wa) (hb : GE X b wb) (hm : behindInMarks op b = false := by first | exact nomark _ | rfl) : GE X (.Compare a [op] [b] pos) (wOp f wa wb) := ge_of (pe_cmpR ho ha hb hm) (se_op h)
/-- a value that is a bool, as a test -/
def wB (w : WE) : WT := fun sl P => w sl fun x => ∃ b, x = .val (.bl b) ∧ P b
theorem gt_cmp {op : CmpOp} {r : R2} {f : T → T → Option T} {a b : Expr} {wa wb : WE} {pos : Pos} (ho : OpR X (compareOp op) r) (h : SOp X.K r f) (ha : GE X a wa) (hb : GE X b wb) (hm : behindInMarks op b = false := by first | exact nomark _ | rfl) : GT X (.Compare a [op] [b] pos) (wB (wOp f wa wb)) :=
  gt_of (pt_cmpR ho ha hb hm) fun F D A H σ sl P Q S hw q => by
    obtain h1 := se_op h F D A H σ sl _ (fun v H' => ∃ k, v = .bl k ∧ Q k H') S hw (fun v H1 x b1 ok hx => by
      obtain ⟨b, rfl, hp⟩ := hx
      cases ok
      exact ⟨b, rfl, q b H1 b1 hp⟩)
    exact h1
/-- a chain of two comparisons -/
def wChain (f g : T → T → Option T) (a b c : WE) : WE := fun sl P => a sl fun x => b sl fun y => ∃ s t k, x.tree = some s ∧ y.tree = some t ∧ f s t = some (.bl k) ∧ (if k = true then c sl fun z => ∃ u r, z.tree = some u ∧ g t u = some r ∧ P (.val r) else P (.val (.bl false)))
theorem se_chain {r r' : R2} {f g : T → T → Option T} {wa wb wc : WE} (h : SOp K r f) (h' : SOp K r' g) : SE K (tChain r r' (eOf K wa) (eOf K wb) (eOf K wc)) (wChain f g wa wb wc) := fun F D A H σ sl P Q S hw q =>
  ⟨F, D, A, sl, _, S, hw, fun u H1 x b1 ok1 hx => ⟨F, D, A, sl, _, S.beh b1, hx, fun v H2 y b2 ok2 hy => by
    obtain ⟨s, t, k, e1, e2, e3, hp⟩ := hy
    have S2 := (S.beh b1).beh b2
    refine h A H2 u v s t _ _ S2.alive ((ok1.mono S.dA b2).reads e1) (ok2.reads e2) e3 fun w H3 e rz => ?_
    cases rz
    refine ⟨k, rfl, ?_⟩
    have b3 := Beh.of_ext S2 e
    cases k with
    | false => 
      rw [if_neg Bool.false_ne_true] at hp ⊢
      exact q _ H3 (.val (.bl false)) ((b1.trans b2).trans b3) (Rep.bl false) hp
    | true =>
      rw [if_pos rfl] at hp ⊢
      refine ⟨F, D, A, sl, _, S2.beh b3, hp, fun z H4 c b4 ok4 hz => ?_⟩
      obtain ⟨u', r', e4, e5, hp'⟩ := hz
      have S4 := (S2.beh b3).beh b4
      refine h' A H4 v z t u' r' Q S4.alive ((ok2.mono S.dA (b3.trans b4)).reads e2) (ok4.reads e4) e5 fun w H5 e6 rz => ?_
      exact q w H5 (.val r') ((((b1.trans b2).trans b3).trans b4).trans (Beh.of_ext S4 e6)) rz hp'⟩⟩
theorem ge_chain {op op' : CmpOp} {r r' : R2} {f g : T → T → Option T} {a b c : Expr} {wa wb wc : WE} {pos : Pos} (ho : OpR X (compareOp op) r) (ho' : OpR X (compareOp op') r') (h : SOp X.K r f) (h' : SOp X.K r' g) (ha : GE X a wa) (hb : GE X b wb) (hc : GE X c wc)
    (hm : lastMarks [op, op'] [b, c] = false := by with_unfolding_all rfl) : GE X (.Compare a [op, op'] [b, c] pos) (wChain f g wa wb wc) := ge_of (pe_chain ho ho' ha hb hc hm) (se_chain h h')
theorem gt_chain {op op' : CmpOp} {r r' : R2} {f g : T → T → Option T} {a b c : Expr} {wa wb wc : WE} {pos : Pos} (ho : OpR X (compareOp op) r) (ho' : OpR X (compareOp op') r') (h : SOp X.K r f) (h' : SOp X.K r' g) (ha : GE X a wa) (hb : GE X b wb) (hc : GE X c wc)
    (hm : lastMarks [op, op'] [b, c] = false := by with_unfolding_all rfl) : GT X (.Compare a [op, op'] [b, c] pos) (wB (wChain f g wa wb wc)) := gt_of (pt_chain ho ho' ha hb hc hm) fun F D A H σ sl P Q S hw q => by
    obtain h1 := se_chain h h' F D A H σ sl _ (fun v H' => ∃ k, v = .bl k ∧ Q k H') S hw (fun v H1 x b1 ok hx => by
      obtain ⟨b, rfl, hp⟩ := hx
      cases ok
      exact ⟨b, rfl, q b H1 b1 hp⟩)
    exact h1
/-- x is None, x is not None -/
def isN (x : Sl) : Option Bool := match x with
  | .val .non => some true
  | .val _ => some false
  | .ob _ _ => some false
  | _ => none
theorem isN_ok {D A0 A : Avoid} {H : Hp} {v : V} {x : Sl} {b : Bool} (ok : SlOk K D A0 A H v x) (e : isN x = some b) : decide (v = .non) = b := by
  cases x with
  | any => cases e
  | dice => cases e
  | ob l ts => cases e; obtain ⟨rfl, _⟩ := ok; exact decide_eq_false (fun z => nomatch z)
  | val t => cases ok <;> cases e <;> first | exact decide_eq_true rfl | exact decide_eq_false (fun z => nomatch z)
def wIsN (neg : Bool) (a : WE) : WE := fun sl P => a sl fun x => ∃ b, isN x = some b ∧ P (.val (.bl (if neg then !b else b)))
theorem ge_isN {a : Expr} {wa : WE} {j pos pos'} (ha : GE X a wa) : GE X (.Compare a [.Is] [.Constant .none j pos'] pos) (wIsN false wa) := ge_of (pe_cmp (pc_isN ha) (by rfl)) fun F D A H σ sl P Q S hw q =>
  ⟨F, D, A, sl, _, S, hw, fun v H1 x b1 ok hx => by
    obtain ⟨b, e, hp⟩ := hx
    rw [isN_ok ok e]
    exact q _ H1 (.val (.bl b)) b1 (Rep.bl b) hp⟩
theorem ge_notN {a : Expr} {wa : WE} {j pos pos'} (ha : GE X a wa) : GE X (.Compare a [.IsNot] [.Constant .none j pos'] pos) (wIsN true wa) := ge_of (pe_cmp (pc_notN ha) (by rfl)) fun F D A H σ sl P Q S hw q =>
  ⟨F, D, A, sl, _, S, hw, fun v H1 x b1 ok hx => by
    obtain ⟨b, e, hp⟩ := hx
    rw [isN_ok ok e]
    exact q _ H1 (.val (.bl (!b))) b1 (Rep.bl (!b)) hp⟩
theorem gt_isN {a : Expr} {wa : WE} {j pos pos'} (ha : GE X a wa) : GT X (.Compare a [.Is] [.Constant .none j pos'] pos) (wB (wIsN false wa)) := gt_of (pt_cmp (pc_isN ha) (by rfl)) fun F D A H σ sl P Q S hw q =>
  ⟨F, D, A, sl, _, S, hw, fun v H1 x b1 ok hx => by
    obtain ⟨b, e, c, e2, hp⟩ := hx
    cases e2
    rw [isN_ok ok e]
    exact ⟨b, rfl, q _ H1 b1 hp⟩⟩
theorem gt_notN {a : Expr} {wa : WE} {j pos pos'} (ha : GE X a wa) : GT X (.Compare a [.IsNot] [.Constant .none j pos'] pos) (wB (wIsN true wa)) := gt_of (pt_cmp (pc_notN ha) (by rfl)) fun F D A H σ sl P Q S hw q =>
  ⟨F, D, A, sl, _, S, hw, fun v H1 x b1 ok hx => by
    obtain ⟨b, e, c, e2, hp⟩ := hx
    cases e2
    rw [isN_ok ok e]
    exact ⟨!b, rfl, q _ H1 b1 hp⟩⟩
/-! ### and, or, not -/
def wAnd (t u : WT) : WT := fun sl P => t sl fun b => if b = true then u sl P else P false
def wOr (t u : WT) : WT := fun sl P => t sl fun b => if b = true then P true else u sl P
def wNot (t : WT) : WT := fun sl P => t sl fun b => P (!b)
theorem gw_or {a b : Expr} {rest : List Expr} {pos : Pos} {t u : WT} (ha : GT X a t) (hb : GW X (.BoolOp .Or (b :: rest) pos) u) : GW X (.BoolOp .Or (a :: b :: rest) pos) (wOr t u) := gw_of (pw_or ha hb) fun F D A H σ sl P Q S hw q =>
  ⟨F, D, A, sl, _, S, hw, fun c H1 b1 hx => by
    cases c with
    | true => exact q true H1 b1 hx
    | false => exact ⟨F, D, A, sl, _, S.beh b1, hx, fun d H2 b2 hp => q d H2 (b1.trans b2) hp⟩⟩
theorem gw_or1 {a : Expr} {pos : Pos} {t : WT} (ha : GT X a t) : GW X (.BoolOp .Or [a] pos) t := pw_or1 ha
theorem gt_not {a : Expr} {pos : Pos} {t : WT} (ha : GT X a t) : GT X (.UnaryOp .Not a pos) (wNot t) := gt_of (pt_not ha) fun F D A H σ sl P Q S hw q =>
  ⟨F, D, A, sl, _, S, hw, fun c H1 b1 hx => q (!c) H1 b1 hx⟩
/-- .. as values -/
def wAndV (a b : WE) : WE := fun sl P => a sl fun x => ∃ c, x = .val (.bl c) ∧ if c = true then b sl P else P (.val (.bl false))
def wOrV (a b : WE) : WE := fun sl P => a sl fun x => ∃ c, x = .val (.bl c) ∧ if c = true then P (.val (.bl true)) else b sl P
def wNotV (a : WE) : WE := fun sl P => a sl fun x => ∃ c, x = .val (.bl c) ∧ P (.val (.bl (!c)))
theorem ge_and {a b : Expr} {rest : List Expr} {pos : Pos} {t u : WE} (ha : GE X a t) (hb : GE X (.BoolOp .And (b :: rest) pos) u) : GE X (.BoolOp .And (a :: b :: rest) pos) (wAndV t u) := ge_of (pe_and ha hb) fun F D A H σ sl P Q S hw q =>
  ⟨F, D, A, sl, _, S, hw, fun v H1 x b1 ok hx => by
    obtain ⟨c, rfl, hp⟩ := hx
    cases ok
    refine ⟨c, rfl, ?_⟩
    cases c with
    | true => exact ⟨F, D, A, sl, _, S.beh b1, hp, fun d H2 x b2 ok hp => q d H2 x (b1.trans b2) ok hp⟩
    | false => exact q _ H1 (.val (.bl false)) b1 (Rep.bl false) hp⟩
theorem ge_or {a b : Expr} {rest : List Expr} {pos : Pos} {t u : WE} (ha : GE X a t) (hb : GE X (.BoolOp .Or (b :: rest) pos) u) : GE X (.BoolOp .Or (a :: b :: rest) pos) (wOrV t u) := ge_of (pe_or ha hb) fun F D A H σ sl P Q S hw q =>
  ⟨F, D, A, sl, _, S, hw, fun v H1 x b1 ok hx => by
    obtain ⟨c, rfl, hp⟩ := hx
    cases ok
    refine ⟨c, rfl, ?_⟩
    cases c with
    | true => exact q _ H1 (.val (.bl true)) b1 (Rep.bl true) hp
    | false => exact ⟨F, D, A, sl, _, S.beh b1, hp, fun d H2 x b2 ok hp => q d H2 x (b1.trans b2) ok hp⟩⟩
theorem ge_one {a : Expr} {op} {pos : Pos} {t : WE} (ha : GE X a t) : GE X (.BoolOp op [a] pos) t := pe_one ha
def wIfE (c : WT) (a b : WE) : WE := fun sl P => c sl fun k => if k = true then a sl P else b sl P
theorem ge_if {c a b : Expr} {pos : Pos} {w : WT} {t u : WE} (hc : GT X c w) (ha : GE X a t) (hb : GE X b u) : GE X (.IfExp c a b pos) (wIfE w t u) := ge_of (pe_ifExp hc ha hb) fun F D A H σ sl P Q S hw q =>
  ⟨F, D, A, sl, _, S, hw, fun c H1 b1 hx => by
    cases c with
    | true => exact ⟨F, D, A, sl, _, S.beh b1, hx, fun d H2 x b2 ok hp => q d H2 x (b1.trans b2) ok hp⟩
    | false => exact ⟨F, D, A, sl, _, S.beh b1, hx, fun d H2 x b2 ok hp => q d H2 x (b1.trans b2) ok hp⟩⟩
/-- truth of any value -/
def truT : T → Option Bool
  | .non => some false
  | .bl b => some b
  | .int i => some (i != 0)
  | .tup ts => some (!ts.isEmpty)
  | .lst ts => some (!ts.isEmpty)
  | .scr ts => some (!ts.isEmpty)
  | _ => none
theorem isEmpty_rep {A : Avoid} {H : Hp} {vs : List V} {ts : List T} (r : RepAll K A H vs ts) : (!ts.isEmpty) = !vs.isEmpty := by
  cases r <;> rfl
theorem truT_ok {A : Avoid} {H : Hp} {v : V} {t : T} {b : Bool} (r : RepS K A H v t) (e : truT t = some b) : TruV K v H b := by
  cases t with
  | non => rw [r.non]; cases e; rfl
  | bl c => rw [r.bl]; cases e; rfl
  | int i => rw [r.int]; cases e; rfl
  | str x => cases e
  | ty x => cases e
  | ins c d f => cases e
  | fn a => cases e
  | exc a d f t => cases e
  | tup ts => obtain ⟨a, vs, rfl, h, ra⟩ := r.tup; cases e; exact .inr (.inl ⟨vs, h, isEmpty_rep ra⟩)
  | lst ts => obtain ⟨a, vs, rfl, h, ra⟩ := r.lst; cases e; exact .inl ⟨vs, .inl (.inl h), isEmpty_rep ra⟩
  | scr ts => obtain ⟨a, vs, rfl, h, ra⟩ := r.scr; cases e; exact .inl ⟨vs, h, isEmpty_rep ra⟩
  | dct ks ts => cases e
def wTru (w : WE) : WT := fun sl P => w sl fun x => ∃ t b, x.tree = some t ∧ truT t = some b ∧ P b
theorem gt_tru {e : Expr} {w : WE} (h : GE X e w) (he : ∀ whole, isTrue e X.env whole = (do let v ← whole; standAt e.pos; holding [v] (truthy v)) := by intro _; rfl) : GT X e (wTru w) := gt_of (pt_truth h he) fun F D A H σ sl P Q S hw q =>
  ⟨F, D, A, sl, _, S, hw, fun v H1 x b1 ok hx => by
    obtain ⟨t, b, e1, e2, hp⟩ := hx
    exact ⟨b, truT_ok (ok.reads e1) e2, q b H1 b1 hp⟩⟩

/-! ### arguments, displays -/
def waNil : WA := fun _ P => P []
def waCons (a : WE) (r : WA) : WA := fun sl P => a sl fun x => r sl fun xs => P (x :: xs)
theorem ga_nil : GA X [] waNil := ga_of pa_nil fun F D A H σ sl P Q S hw q => q [] H [] (Beh.refl S) .nil hw
theorem ga_cons {e : Expr} {es : List Expr} {w : WE} {r : WA} (he : GE X e w) (hr : GA X es r) (hs : starEach (e :: es) X.env = (false, eval e X.env) :: starEach es X.env := by rfl) : GA X (e :: es) (waCons w r) := ga_of (pa_cons he hr hs) fun F D A H σ sl P Q S hw q =>
  ⟨F, D, A, sl, _, S, hw, fun v H1 x b1 ok hx => ⟨F, D, A, sl, _, S.beh b1, hx, fun vs H2 xs b2 oks hp => q _ H2 _ (b1.trans b2) (.cons (ok.mono S.dA b2) oks) hp⟩⟩
/-- all of them trees -/
def trees : List Sl → Option (List T)
  | [] => some []
  | .val t :: r => (match trees r with
    | some ts => some (t :: ts)
    | none => none)
  | _ :: _ => none
theorem trees_ok {D A0 A : Avoid} {H : Hp} : ∀ {vs : List V} {xs : List Sl} {ts : List T}, Paired (SlOk K D A0 A H) vs xs → trees xs = some ts → RepAll K A H vs ts
  | _, _, _, .nil, e => by cases e; exact .nil
  | _, x :: xs, ts, .cons h r, e => by
    cases x with
    | any => cases e
    | dice => cases e
    | ob l us => cases e
    | val t =>
      unfold trees at e
      cases e1 : trees xs with
      | none => rw [e1] at e; cases e
      | some us =>
        rw [e1] at e
        cases e
        exact .cons h (trees_ok r e1)
theorem sz_of {n : Nat} (h : n ≤ 1000000) : n ≤ sizeLine := Nat.le_trans h (by decide)
theorem sz_lt {n : Nat} (h : n < 1000000) : n < sizeLine := Nat.lt_of_lt_of_le h (by decide)
theorem fresh_notin {A : Avoid} {H : Hp} {p : Addr} (al : ∀ a ∈ A, H a ≠ none) (hp : H p = none) : p ∉ A := fun z => al p z hp
def wTup (a : WA) : WE := fun sl P => a sl fun xs => ∃ ts, trees xs = some ts ∧ ts.length ≤ 1000000 ∧ P (.val (.tup ts))
theorem ge_tup {es : List Expr} {x1 pos} {a : WA} (h : GA X es a) : GE X (.Tuple es x1 pos) (wTup a) := ge_of (pe_tup h) fun F D A H σ sl P Q S hw q =>
  ⟨F, D, A, sl, _, S, hw, fun vs H1 xs b1 oks hx => by
    obtain ⟨ts, e, hl, hp⟩ := hx
    have r := trees_ok oks e
    refine ⟨sz_of (by rw [r.length]; exact hl), fun p hpn => ?_⟩
    have S1 := S.beh b1
    have e2 : Ext [] H1 (upd H1 p (.tup vs)) := Ext.new hpn
    refine q _ _ (.val (.tup ts)) (b1.trans (Beh.of_ext S1 e2)) ?_ hp
    exact Rep.tup (fresh_notin S1.alive hpn) upd_same (r.mono (Ext.new hpn))⟩
/-! a fresh list -/
abbrev WL := List Sl → (List T → Prop) → Prop
def lOf (K : PySem.W.Frag) (w : WL) : TE := fun σ H Q => ∃ F D A sl P, Sta K F D A H σ sl ∧ w sl P ∧ ∀ p H' vs ts, Beh D H H' → H p = none → p ∉ A → H' p = some (.lst vs) → RepAll K (p :: A) H' vs ts → P ts → Q (.ref p) H'
abbrev GL (X : Cx) (e : Expr) (w : WL) : Prop := PE X e (lOf X.K w)
def SL (K : PySem.W.Frag) (t : TE) (w : WL) : Prop := ∀ F D A H σ sl P Q, Sta K F D A H σ sl → w sl P → (∀ p H' vs ts, Beh D H H' → H p = none → p ∉ A → H' p = some (.lst vs) → RepAll K (p :: A) H' vs ts → P ts → Q (.ref p) H') → t σ H Q
theorem gl_of {e : Expr} {t : TE} {w : WL} (h : PE X e t) (s : SL X.K t w) : GL X e w := ⟨fun pins st σ H Q I ⟨F, D, A, sl, P, S, hw, q⟩ => h.run pins st σ H Q I (s F D A H σ sl P Q S hw q)⟩
def wL (w : WL) : WE := fun sl P => w sl fun ts => P (.val (.lst ts))
theorem GL.ge {e : Expr} {w : WL} (h : GL X e w) : GE X e (wL w) := ge_of h fun F D A H σ sl P Q S hw q =>
  ⟨F, D, A, sl, _, S, hw, fun p H' vs ts b hp hA hH r hP => q _ _ (.val (.lst ts)) b (Rep.lst hA hH (r.sub fun a ha => List.mem_cons_of_mem _ ha)) hP⟩
theorem fresh_back {D : Avoid} {H H' : Hp} {p : Addr} (m : ∀ d ∈ D, MovAt H d) (e : Beh D H H') (h : H' p = none) : H p = none := by
  cases h1 : H p with
  | none => rfl
  | some o =>
    by_cases hd : p ∈ D
    · exact absurd h ((m p hd).keep (e.dice p hd)).here
    · rw [e.ext p o hd h1] at h
      cases h
def wLst (a : WA) : WL := fun sl P => a sl fun xs => ∃ ts, trees xs = some ts ∧ ts.length ≤ 1000000 ∧ P ts
theorem gl_lst {es : List Expr} {pos} {a : WA} (h : GA X es a) : GL X (.List es pos) (wLst a) := gl_of (pe_lst h) fun F D A H σ sl P Q S hw q =>
  ⟨F, D, A, sl, _, S, hw, fun vs H1 xs b1 oks hx => by
    obtain ⟨ts, e, hl, hp⟩ := hx
    have r := trees_ok oks e
    refine ⟨sz_of (by rw [r.length]; exact hl), fun p hpn => ?_⟩
    have S1 := S.beh b1
    have e2 : Ext [] H1 (upd H1 p (.lst vs)) := Ext.new hpn
    refine q _ _ _ ts (b1.trans (Beh.of_ext S1 e2)) (fresh_back S.dice b1 hpn) (fresh_notin S1.alive hpn) upd_same ?_ hp
    exact (r.more hpn).mono (Ext.new hpn)⟩
def wDct0 : WE := fun _ P => P (.val (.dct [] []))
theorem ge_dct0 {pos} : GE X (.Dict [] [] pos) wDct0 := ge_of pe_dnewK fun F D A H σ sl P Q S hw q => fun p hp => by
  have e2 : Ext [] H (upd H p (.dK [])) := Ext.new hp
  exact q _ _ (.val (.dct [] [])) (Beh.of_ext S e2) (Rep.dct (ks := []) (vs := []) (fresh_notin S.alive hp) (.inl upd_same) rfl .nil) hw
end
end Tr


set_option Elab.async false
set_option linter.all false
set_option maxRecDepth 100000
set_option maxHeartbeats 0
namespace Tr
open PySem PySem.Spec PyProof.Rows L2
variable [Tabl]
section
variable {X : Cx} {K : PySem.W.Frag}
/-! ### 6. operators on trees -/
def few (n : Nat) : Bool := decide (n ≤ 1000000)
theorem few_of {n : Nat} (h : few n = true) : n ≤ 1000000 := of_decide_eq_true h
def addT : T → T → Option T
  | .int i, .int j => some (.int (i + j))
  | .str x, .str y => if few (x.length + y.length) = true then some (.str (x ++ y)) else none
  | .tup xs, .tup ys => if few (xs.length + ys.length) = true then some (.tup (xs ++ ys)) else none
  | .lst xs, .lst ys => if few (xs.length + ys.length) = true then some (.lst (xs ++ ys)) else none
  | _, _ => none
def rAddS : R2 := fun x y H Q => ∃ i j, x = .str i ∧ y = .str j ∧ i.length + j.length ≤ sizeLine ∧ Q (.str (i ++ j)) H
def rAddA (K : PySem.W.Frag) : R2 := fun x y H Q => rI0 (fun i j => .int (i + j)) x y H Q ∨ (rCatA K x y H Q ∨ (rCat x y H Q ∨ rAddS x y H Q))
theorem op_addA : OpR X (binaryOp .Add) (rAddA X.K) := OpR.or op_add (OpR.or op_catA (OpR.or op_cat op_add_str))
theorem sop_add : SOp K (rAddA K) addT := fun A H u v x y z Q al ru rv e q => by
  cases x with
  | int i => cases y with
    | int j =>
      cases e
      exact .inl ⟨i, j, ru.int, rv.int, q _ _ (Ext.refl H) (.int _)⟩
    | _ => cases e
  | str i => cases y with
    | str j =>
      simp only [addT] at e
      split at e
      · rename_i hf
        cases e
        exact .inr (.inr (.inr ⟨i, j, ru.str, rv.str, Tr.sz_of (few_of hf), q _ _ (Ext.refl H) (.str _)⟩))
      · cases e
    | _ => cases e
  | tup xs => cases y with
    | tup ys =>
      simp only [addT] at e
      split at e
      · rename_i hf
        cases e
        have hf := few_of hf
        obtain ⟨a, vs, rfl, h1, r1⟩ := ru.tup
        obtain ⟨b, ws, rfl, h2, r2⟩ := rv.tup
        refine .inr (.inl ⟨a, b, vs, ws, rfl, rfl, h1, h2, Tr.sz_of (by rw [r1.length, r2.length]; exact hf), fun z => ?_, fun _ z => ?_, fun _ _ p hp => ?_⟩)
        · subst z
          cases r1
          cases rv with | of rv => exact q _ _ (Ext.refl H) rv
        · subst z
          cases r2
          rw [List.append_nil] at q
          cases ru with | of ru => exact q _ _ (Ext.refl H) ru
        · exact q _ _ (Ext.new hp) (.tup (fresh_notin al hp) upd_same ((r1.append r2).mono (Ext.new hp)))
      · cases e
    | _ => cases e
  | lst xs => cases y with
    | lst ys =>
      simp only [addT] at e
      split at e
      · rename_i hf
        cases e
        have hf := few_of hf
        obtain ⟨a, vs, rfl, h1, r1⟩ := ru.lst
        obtain ⟨b, ws, rfl, h2, r2⟩ := rv.lst
        exact .inr (.inr (.inl ⟨a, b, vs, ws, rfl, rfl, h1, h2, Tr.sz_of (by rw [r1.length, r2.length]; exact hf), fun p hp => q _ _ (Ext.new hp) (.lst (fresh_notin al hp) upd_same ((r1.append r2).mono (Ext.new hp)))⟩))
      · cases e
    | _ => cases e
  | _ => cases e
def subT : T → T → Option T
  | .int i, .int j => some (.int (i - j))
  | _, _ => none
theorem sop_sub : SOp K (rI0 fun i j => .int (i - j)) subT := fun A H u v x y z Q al ru rv e q => by
  cases x with
  | int i => cases y with
    | int j => cases e; exact ⟨i, j, ru.int, rv.int, q _ _ (Ext.refl H) (.int _)⟩
    | _ => cases e
  | _ => cases e
/-- the product's size -/
def wide (i j : Int) : Bool := (decide (i.natAbs < 2 ^ 64) || decide (j.natAbs < 2 ^ 64)) || decide (i.natAbs.log2 + j.natAbs.log2 < 1000000)
theorem wide_ok {i j : Int} (h : wide i j = true) : IntMulOk i j := by
  unfold wide at h
  rw [Bool.or_eq_true, Bool.or_eq_true] at h
  rcases h with (h | h) | h
  · have := of_decide_eq_true h
    exact CMul.ok (.inl (by omega))
  · have := of_decide_eq_true h
    exact CMul.ok (.inr (by omega))
  · exact CMulW.ok (of_decide_eq_true (p := i.natAbs.log2 + j.natAbs.log2 < 1000000) h)
theorem op_mulI {X : Cx} : OpR X (binaryOp .Mult) (rI IntMulOk fun i j => .int (i * j)) := opI fun _ _ _ _ _ _ _ hc q => mul_int q hc
def rMulS : R2 := fun x y H Q => ∃ z k, x = .str z ∧ y = .int k ∧ 0 ≤ k ∧ k ≤ 2000 ∧ z.length ≤ 1000 ∧ Q (.str (Txt.mul z k)) H
theorem op_mulS {X : Cx} : OpR X (binaryOp .Mult) rMulS := by
  intro pins s σ H x y v u Q I rx ry h
  obtain ⟨z, k, rfl, rfl, h0, h1, hz, q⟩ := h
  obtain ⟨t, rfl⟩ := rx
  obtain ⟨t', rfl⟩ := ry
  refine SB.mul ⟨by rw [decide_eq_false (by omega), decide_eq_false (by omega)] <;> rfl, fun h2 h3 => ?_, fun h2 h3 => ?_⟩ fun t' k' => ⟨.str _, H, I.tok _, ⟨_, rfl⟩, q⟩
  · have h4 : (2 ^ 63 - 1 : Int) / 2000 ≤ (2 ^ 63 - 1) / k := by
      refine Int.le_ediv_of_mul_le (by omega) ?_
      have a1 : (2 ^ 63 - 1 : Int) / 2000 * k ≤ (2 ^ 63 - 1) / 2000 * 2000 := Int.mul_le_mul_of_nonneg_left h1 (by decide)
      omega
    have h5 : (1000 : Int) ≤ (2 ^ 63 - 1) / 2000 := by decide
    omega
  · unfold Builtin.Str.tooLong
    have a1 : z.length * k.toNat ≤ 1000 * 2000 := Nat.mul_le_mul hz (by omega)
    simp only [decide_eq_false_iff_not, sizeLine_eq]
    omega
def mulT : T → T → Option T
  | .str z, .int k => if (decide (0 ≤ k) && (decide (k ≤ 2000) && decide (z.length ≤ 1000))) = true then some (.str (Txt.mul z k)) else none
  | .int i, .int j => if wide i j = true then some (.int (i * j)) else none
  | .tup xs, .int k => if xs = [] then none else if k = 1 then some (.tup xs) else if (decide (2 ≤ k) && (decide (k ≤ 1000) && decide (xs.length ≤ 1000))) = true then some (.tup (List.replicate k.toNat xs).flatten) else none
  | .lst xs, .int k => if (decide (0 ≤ k) && (decide (k ≤ 1000) && decide (xs.length ≤ 1000))) = true then some (.lst (List.replicate k.toNat xs).flatten) else none
  | _, _ => none
def rMulA (K : PySem.W.Frag) : R2 := fun x y H Q => rI IntMulOk (fun i j => .int (i * j)) x y H Q ∨ (rRep1 K x y H Q ∨ (rRepT K x y H Q ∨ (rRep x y H Q ∨ rMulS x y H Q)))
theorem op_mulA : OpR X (binaryOp .Mult) (rMulA X.K) := OpR.or op_mulI (OpR.or op_rep1 (OpR.or op_repT (OpR.or op_rep op_mulS)))
theorem sop_mul : SOp K (rMulA K) mulT := fun A H u v x y z Q al ru rv e q => by
  cases x with
  | str i => cases y with
    | int j =>
      simp only [mulT] at e
      split at e
      · rename_i hf
        cases e
        rw [Bool.and_eq_true, Bool.and_eq_true] at hf
        exact .inr (.inr (.inr (.inr ⟨i, j, ru.str, rv.int, of_decide_eq_true hf.1, of_decide_eq_true hf.2.1, of_decide_eq_true hf.2.2, q _ _ (Ext.refl H) (.str _)⟩)))
      · cases e
    | _ => cases e
  | int i => cases y with
    | int j =>
      simp only [mulT] at e
      split at e
      · rename_i hf
        cases e
        exact .inl ⟨i, j, ru.int, rv.int, wide_ok hf, q _ _ (Ext.refl H) (.int _)⟩
      · cases e
    | _ => cases e
  | tup xs => cases y with
    | int k =>
      simp only [mulT] at e
      obtain ⟨a, vs, rfl, h1, r1⟩ := ru.tup
      split at e
      · cases e
      · rename_i hne
        have hv : vs ≠ [] := fun z => hne (by subst z; cases r1; rfl)
        split at e
        · rename_i hk
          cases e
          subst hk
          cases ru with | of ru => exact .inr (.inl ⟨a, vs, rfl, rv.int, h1, q _ _ (Ext.refl H) ru⟩)
        · split at e
          · rename_i hk
            cases e
            rw [Bool.and_eq_true, Bool.and_eq_true] at hk
            exact .inr (.inr (.inl ⟨a, k, vs, rfl, rv.int, h1, hv, of_decide_eq_true hk.1, of_decide_eq_true hk.2.1, by rw [r1.length]; exact of_decide_eq_true hk.2.2, fun p hp => q _ _ (Ext.new hp) (.tup (fresh_notin al hp) upd_same ((r1.rep _).mono (Ext.new hp)))⟩))
          · cases e
    | _ => cases e
  | lst xs => cases y with
    | int k =>
      simp only [mulT] at e
      obtain ⟨a, vs, rfl, h1, r1⟩ := ru.lst
      split at e
      · rename_i hk
        cases e
        rw [Bool.and_eq_true, Bool.and_eq_true] at hk
        have k1 := of_decide_eq_true hk.1
        have k2 := of_decide_eq_true hk.2.1
        have k3 := of_decide_eq_true hk.2.2
        refine .inr (.inr (.inr (.inl ⟨a, k, vs, rfl, rv.int, h1, by omega, by omega, ?_, fun p hp => q _ _ (Ext.new hp) (.lst (fresh_notin al hp) upd_same ((r1.rep _).mono (Ext.new hp)))⟩)))
        rw [r1.length]
        exact Tr.sz_of (Nat.le_trans (Nat.mul_le_mul k3 (show k.toNat ≤ 1000 by omega)) (by decide))
      · cases e
    | _ => cases e
  | _ => cases e
def divOk (j : Int) : Bool := decide (0 < j) && decide (j.natAbs.log2 < 9000)
def divT : T → T → Option T
  | .int i, .int j => if divOk j = true then some (.int (i / j)) else none
  | _, _ => none
theorem sop_div : SOp K (rI CDivW fun i j => .int (i / j)) divT := fun A H u v x y z Q al ru rv e q => by
  cases x with
  | int i => cases y with
    | int j =>
      simp only [divT] at e
      split at e
      · rename_i hf
        cases e
        unfold divOk at hf
        rw [Bool.and_eq_true] at hf
        exact ⟨i, j, ru.int, rv.int, ⟨of_decide_eq_true hf.1, of_decide_eq_true hf.2⟩, q _ _ (Ext.refl H) (.int _)⟩
      · cases e
    | _ => cases e
  | _ => cases e
def modT : T → T → Option T
  | .int i, .int j => if decide (0 < j) = true then some (.int (i % j)) else none
  | _, _ => none
theorem sop_mod : SOp K (rI (fun _ j => 0 < j) fun i j => .int (i % j)) modT := fun A H u v x y z Q al ru rv e q => by
  cases x with
  | int i => cases y with
    | int j =>
      simp only [modT] at e
      split at e
      · rename_i hf
        cases e
        exact ⟨i, j, ru.int, rv.int, of_decide_eq_true hf, q _ _ (Ext.refl H) (.int _)⟩
      · cases e
    | _ => cases e
  | _ => cases e
/-- i ** j that the machine writes down -/
def powOk (i j : Int) : Bool := decide (0 ≤ j) && decide ((Builtin.Int.intBits i : Int) * j ≤ 2 ^ 27)
def CPowW (i j : Int) : Prop := 0 ≤ j ∧ (Builtin.Int.intBits i : Int) * j ≤ 2 ^ 27
theorem op_powW {X : Cx} : OpR X (binaryOp .Pow) (rI CPowW fun i j => .int (i ^ j.toNat)) := opI fun _ _ _ _ _ _ _ hc q => pow_int hc.1 hc.2 q
def powT : T → T → Option T
  | .int i, .int j => if powOk i j = true then some (.int (i ^ j.toNat)) else none
  | _, _ => none
theorem sop_pow : SOp K (rI CPowW fun i j => .int (i ^ j.toNat)) powT := fun A H u v x y z Q al ru rv e q => by
  cases x with
  | int i => cases y with
    | int j =>
      simp only [powT] at e
      split at e
      · rename_i hf
        cases e
        unfold powOk at hf
        rw [Bool.and_eq_true] at hf
        exact ⟨i, j, ru.int, rv.int, ⟨of_decide_eq_true hf.1, of_decide_eq_true hf.2⟩, q _ _ (Ext.refl H) (.int _)⟩
      · cases e
    | _ => cases e
  | _ => cases e
def ltT : T → T → Option T
  | .int i, .int j => some (.bl (decide (i < j)))
  | .str x, .str y => some (.bl (decide (x.cps.toList < y.cps.toList)))
  | _, _ => none
def leT : T → T → Option T
  | .int i, .int j => some (.bl (decide (i ≤ j)))
  | .str x, .str y => some (.bl (!decide (y.cps.toList < x.cps.toList)))
  | _, _ => none
def gtT : T → T → Option T
  | .int i, .int j => some (.bl (decide (j < i)))
  | .str x, .str y => some (.bl (decide (y.cps.toList < x.cps.toList)))
  | _, _ => none
def geT : T → T → Option T
  | .int i, .int j => some (.bl (decide (j ≤ i)))
  | .str x, .str y => some (.bl (!decide (x.cps.toList < y.cps.toList)))
  | _, _ => none
def rLtA : R2 := fun x y H Q => rI0 (fun i j => .bl (decide (i < j))) x y H Q ∨ (∃ i j, x = .str i ∧ y = .str j ∧ Q (.bl (decide (i.cps.toList < j.cps.toList))) H)
def rGtA : R2 := fun x y H Q => rI0 (fun i j => .bl (decide (j < i))) x y H Q ∨ (∃ i j, x = .str i ∧ y = .str j ∧ Q (.bl (decide (j.cps.toList < i.cps.toList))) H)
theorem op_ltA : OpR X (compareOp .Lt) rLtA := OpR.or op_lt op_lt_str
theorem op_gtA : OpR X (compareOp .Gt) rGtA := OpR.or op_gt op_gt_str
theorem sop_lt : SOp K rLtA ltT := fun A H u v x y z Q al ru rv e q => by
  cases x with
  | int i => cases y with
    | int j => cases e; exact .inl ⟨i, j, ru.int, rv.int, q _ _ (Ext.refl H) (.bl _)⟩
    | _ => cases e
  | str i => cases y with
    | str j => cases e; exact .inr ⟨i, j, ru.str, rv.str, q _ _ (Ext.refl H) (.bl _)⟩
    | _ => cases e
  | _ => cases e
theorem sop_gt : SOp K rGtA gtT := fun A H u v x y z Q al ru rv e q => by
  cases x with
  | int i => cases y with
    | int j => cases e; exact .inl ⟨i, j, ru.int, rv.int, q _ _ (Ext.refl H) (.bl _)⟩
    | _ => cases e
  | str i => cases y with
    | str j => cases e; exact .inr ⟨i, j, ru.str, rv.str, q _ _ (Ext.refl H) (.bl _)⟩
    | _ => cases e
  | _ => cases e
def rLeA : R2 := fun x y H Q => rI0 (fun i j => .bl (decide (i ≤ j))) x y H Q ∨ (∃ i j, x = .str i ∧ y = .str j ∧ Q (.bl (!decide (j.cps.toList < i.cps.toList))) H)
def rGeA : R2 := fun x y H Q => rI0 (fun i j => .bl (decide (j ≤ i))) x y H Q ∨ (∃ i j, x = .str i ∧ y = .str j ∧ Q (.bl (!decide (i.cps.toList < j.cps.toList))) H)
theorem op_leA : OpR X (compareOp .LtE) rLeA := OpR.or op_le op_le_str
theorem sop_le : SOp K rLeA leT := fun A H u v x y z Q al ru rv e q => by
  cases x with
  | int i => cases y with
    | int j => cases e; exact .inl ⟨i, j, ru.int, rv.int, q _ _ (Ext.refl H) (.bl _)⟩
    | _ => cases e
  | str i => cases y with
    | str j => cases e; exact .inr ⟨i, j, ru.str, rv.str, q _ _ (Ext.refl H) (.bl _)⟩
    | _ => cases e
  | _ => cases e
/-! == and != of data at any depth -/
mutual
def dat : T → Option PyData
  | .non => some .none
  | .bl b => some (.bool b)
  | .int i => some (.int i)
  | .str x => some (.str x)
  | .tup ts => (datAll ts).map .tuple
  | .lst ts => (datAll ts).map .list
  | .scr ts => (datAll ts).map .list
  | _ => none
def datAll : List T → Option (List PyData)
  | [] => some []
  | t :: r => (dat t).bind fun d => (datAll r).map fun ds => d :: ds
end
mutual
theorem dat_ok {A : Avoid} {H : Hp} : ∀ {v : V} {t : T} {d : PyData}, Rep K A H v t → dat t = some d → Dp K H v d
  | _, _, _, .non, e => by simp only [dat] at e; cases e; exact .non
  | _, _, _, .bl b, e => by simp only [dat] at e; cases e; exact .bl b
  | _, _, _, .int i, e => by simp only [dat] at e; cases e; exact .int i
  | _, _, _, .str x, e => by simp only [dat] at e; cases e; exact .str x
  | _, _, _, .ty n, e => by simp only [dat] at e; cases e
  | _, _, _, .tup n h r, e => by
    simp only [dat] at e
    obtain ⟨ds, e1, rfl⟩ := Option.map_eq_some_iff.mp e
    exact .tup (.inl (.inl h)) (datAll_ok r e1)
  | _, _, _, .tupK h r, e => by
    simp only [dat] at e
    obtain ⟨ds, e1, rfl⟩ := Option.map_eq_some_iff.mp e
    exact .tup (.inr h) (datAll_ok r e1)
  | _, _, _, .lst n h r, e => by
    simp only [dat] at e
    obtain ⟨ds, e1, rfl⟩ := Option.map_eq_some_iff.mp e
    exact .lst (.inl (.inl h)) (datAll_ok r e1)
  | _, _, _, .scr n h r, e => by
    simp only [dat] at e
    obtain ⟨ds, e1, rfl⟩ := Option.map_eq_some_iff.mp e
    exact .lst (.inl (.inr ⟨_, h⟩)) (datAll_ok r e1)
  | _, _, _, .scrK h r, e => by
    simp only [dat] at e
    obtain ⟨ds, e1, rfl⟩ := Option.map_eq_some_iff.mp e
    exact .lst (.inr h) (datAll_ok r e1)
  | _, _, _, .dct n h l r, e => by simp only [dat] at e; cases e
  | _, _, _, .ins n m h k l r, e => by simp only [dat] at e; cases e
  | _, _, _, .fn a, e => by simp only [dat] at e; cases e
  | _, _, _, .exc n h r, e => by simp only [dat] at e; cases e
theorem datAll_ok {A : Avoid} {H : Hp} : ∀ {vs : List V} {ts : List T} {ds : List PyData}, RepAll K A H vs ts → datAll ts = some ds → DpAll K H vs ds
  | _, _, _, .nil, e => by simp only [datAll] at e; cases e; exact .nil
  | _, _, _, .cons h r, e => by
    simp only [datAll] at e
    obtain ⟨d, e1, e2⟩ := Option.bind_eq_some_iff.mp e
    obtain ⟨ds, e3, rfl⟩ := Option.map_eq_some_iff.mp e2
    exact .cons (dat_ok h e1) (datAll_ok r e3)
end
theorem datS_ok {A : Avoid} {H : Hp} {v : V} {t : T} {d : PyData} (r : RepS K A H v t) (e : dat t = some d) : Dp K H v d := by
  cases r with
  | of r => exact dat_ok r e
  | own h r =>
    simp only [dat] at e
    obtain ⟨ds, e1, rfl⟩ := Option.map_eq_some_iff.mp e
    exact .lst (.inl (.inl h)) (datAll_ok r e1)
  | ownd h l r => simp only [dat] at e; cases e
/-- a tree that can be compared -/
def shp (t : T) : Bool := match dat t with
  | some d => SeqAt.shaped d
  | none => false
def eqB (s t : T) : Bool := match dat s, dat t with
  | some d, some e => PyData.eqv d e
  | _, _ => false
def eqT (s t : T) : Option T := if (shp s && shp t) = true then some (.bl (eqB s t)) else none
def neT (s t : T) : Option T := if (shp s && shp t) = true then some (.bl (!eqB s t)) else none
theorem shp_of {t : T} (h : shp t = true) : ∃ d, dat t = some d ∧ SeqAt.shaped d = true := by
  unfold shp at h
  cases e : dat t with
  | none => rw [e] at h; cases h
  | some d => rw [e] at h; exact ⟨d, rfl, h⟩
theorem sop_eq : SOp K (rEqD K) eqT := fun A H u v x y z Q al ru rv e q => by
  unfold eqT at e
  split at e
  · rename_i hs
    rw [Bool.and_eq_true] at hs
    obtain ⟨d, e1, s1⟩ := shp_of hs.1
    obtain ⟨d2, e2, s2⟩ := shp_of hs.2
    cases e
    refine ⟨d, d2, datS_ok ru e1, datS_ok rv e2, s1, s2, ?_⟩
    have h := q (.bl (eqB x y)) H (Ext.refl H) (.bl _)
    unfold eqB at h
    rw [e1, e2] at h
    exact h
  · cases e
theorem sop_ne : SOp K (rNeD K) neT := fun A H u v x y z Q al ru rv e q => by
  unfold neT at e
  split at e
  · rename_i hs
    rw [Bool.and_eq_true] at hs
    obtain ⟨d, e1, s1⟩ := shp_of hs.1
    obtain ⟨d2, e2, s2⟩ := shp_of hs.2
    cases e
    refine ⟨d, d2, datS_ok ru e1, datS_ok rv e2, s1, s2, ?_⟩
    have h := q (.bl (!eqB x y)) H (Ext.refl H) (.bl _)
    unfold eqB at h
    rw [e1, e2] at h
    exact h
  · cases e
/-! in, not in: flat items -/
def flatT : T → Bool
  | .non => true | .bl _ => true | .int _ => true | .str _ => true | _ => false
def eqF : T → T → Bool
  | .non, .non => true
  | .bl a, .bl b => a == b
  | .bl a, .int b => (if a then 1 else 0) == b
  | .int a, .bl b => a == (if b then 1 else 0)
  | .int a, .int b => a == b
  | .str a, .str b => a == b
  | _, _ => false
def inT (x : T) (t : T) : Option Bool := match t.seq with
  | some ts => if (flatT x && ts.all flatT) = true then some (ts.any fun y => eqF y x) else none
  | none => none
theorem flat_ok {A : Avoid} {H : Hp} {v : V} {t : T} (r : Rep K A H v t) : flatT t = true → flatV v = true := by
  cases r <;> intro h <;> first | rfl | cases h
theorem flatAll_ok {A : Avoid} {H : Hp} : ∀ {vs : List V} {ts : List T}, RepAll K A H vs ts → ts.all flatT = true → vs.all flatV = true
  | _, _, .nil, _ => rfl
  | _, _, .cons h r, e => by
    rw [List.all_cons, Bool.and_eq_true] at e ⊢
    exact ⟨flat_ok h e.1, flatAll_ok r e.2⟩
theorem eqF_ok {A B : Avoid} {H H' : Hp} {v w : V} {s t : T} (r : Rep K A H v s) (r' : Rep K B H' w t) (hs : flatT s = true) (ht : flatT t = true) : eqV v w = eqF s t := by
  cases r <;> first | (cases hs; done) | (cases r' <;> first | rfl | (cases ht; done))
theorem any_ok {A B : Avoid} {H H' : Hp} {w : V} {t : T} (r' : Rep K B H' w t) (ht : flatT t = true) : ∀ {vs : List V} {ts : List T}, RepAll K A H vs ts → ts.all flatT = true → (vs.any fun y => eqV y w) = ts.any fun y => eqF y t
  | _, _, .nil, _ => rfl
  | _, _, .cons h r, e => by
    rw [List.all_cons, Bool.and_eq_true] at e
    rw [List.any_cons, List.any_cons, eqF_ok h r' e.1 ht, any_ok r' ht r e.2]
def isIn (neg : Bool) (x t : T) : Option T := match inT x t with
  | some b => some (.bl (if neg = true then !b else b))
  | none => none
theorem sop_in (neg : Bool) : SOp K (rIn K neg) (isIn neg) := fun A H u v x y z Q al ru rv e q => by
  unfold isIn inT at e
  cases h : y.seq with
  | none => rw [h] at e; cases e
  | some ts =>
    rw [h] at e
    simp only at e
    split at e
    · rename_i b hb
      split at hb
      · rename_i hf
        cases hb
        cases e
        rw [Bool.and_eq_true] at hf
        obtain ⟨a, vs, rfl, hsq, r⟩ := rv.seq h
        have rux : Rep K A H u x := by
          cases ru with
          | of r => exact r
          | own h1 r1 => cases hf.1
          | ownd h1 l1 r1 => cases hf.1
        refine ⟨a, vs, rfl, hsq, flat_ok rux hf.1, flatAll_ok r hf.2, ?_⟩
        have g := q _ H (Ext.refl H) (.bl _)
        unfold inV
        rw [any_ok rux hf.1 r hf.2]
        cases neg <;> exact g
      · cases hb
    · cases e
end
end Tr


set_option Elab.async false
set_option linter.all false
set_option maxRecDepth 100000
set_option maxHeartbeats 0
namespace Tr
open PySem PySem.Spec PyProof.Rows L2
variable [Tabl]
section
variable {X : Cx} {K : PySem.W.Frag}
/-! ### 7. items, slices, built-in functions, calls -/
def ixT : T → T → Option T
  | .tup ts, .int i => atI ts i
  | .lst ts, .int i => atI ts i
  | .scr ts, .int i => atI ts i
  | .str x, .int i => if few x.length = true then (atI x.cps.toList i).map fun c => .str ⟨#[c]⟩ else none
  | _, _ => none
theorem atI_rep {A : Avoid} {H : Hp} {vs : List V} {ts : List T} {i : Int} {t : T} (r : RepAll K A H vs ts) (e : atI ts i = some t) : ∃ v, atI vs i = some v ∧ Rep K A H v t := by
  unfold atI at e ⊢
  rw [r.length]
  cases h : ixN ts.length i with
  | none => rw [h] at e; cases e
  | some j =>
    rw [h] at e
    exact r.get e
theorem sop_ix : SOp K (rIx K) ixT := fun A H u v x y z Q al ru rv e q => by
  cases x with
  | tup ts => cases y with
    | int i =>
      obtain ⟨a, vs, rfl, h, r⟩ := ru.tup
      obtain ⟨w, e1, rw'⟩ := atI_rep r e
      exact .inr (.inl ⟨a, vs, i, w, rfl, rv.int, h, e1, q _ _ (Ext.refl H) rw'⟩)
    | _ => cases e
  | lst ts => cases y with
    | int i =>
      obtain ⟨a, vs, rfl, h, r⟩ := ru.lst
      obtain ⟨w, e1, rw'⟩ := atI_rep r e
      exact .inl ⟨a, vs, i, w, rfl, rv.int, .inl (.inl h), e1, q _ _ (Ext.refl H) rw'⟩
    | _ => cases e
  | scr ts => cases y with
    | int i =>
      obtain ⟨a, vs, rfl, h, r⟩ := ru.scr
      obtain ⟨w, e1, rw'⟩ := atI_rep r e
      exact .inl ⟨a, vs, i, w, rfl, rv.int, h, e1, q _ _ (Ext.refl H) rw'⟩
    | _ => cases e
  | str x => cases y with
    | int i =>
      simp only [ixT] at e
      split at e
      · rename_i hf
        obtain ⟨c, e1, rfl⟩ := Option.map_eq_some_iff.mp e
        exact .inr (.inr ⟨x, i, c, ru.str, rv.int, Tr.sz_of (few_of hf), e1, q _ _ (Ext.refl H) (.str _)⟩)
      · cases e
    | _ => cases e
  | _ => cases e
theorem ge_ix {a b : Expr} {wa wb : WE} {pos : Pos} (ha : GE X a wa) (hb : GE X b wb) (hs : PlainIx b := by exact fun _ _ => rfl) : GE X (.Subscript a b pos) (wOp ixT wa wb) := ge_of (pe_ix ix_seq ha hb hs) (se_op sop_ix)
/-- a cut -/
def cutT {α : Type} (xs : List α) (lo hi : Option Int) : List α := (xs.drop (HT.sIx xs.length 0 lo)).take (HT.sIx xs.length xs.length hi - HT.sIx xs.length 0 lo)
def slT : T → Option Int → Option Int → Option T
  | .tup ts, lo, hi => some (.tup (cutT ts lo hi))
  | .lst ts, lo, hi => some (.lst (cutT ts lo hi))
  | .scr ts, lo, hi => some (.lst (cutT ts lo hi))
  | .str x, lo, hi => if few x.length = true then some (.str (cutS x lo hi)) else none
  | _, _, _ => none
abbrev WO := List Sl → (Option Int → Prop) → Prop
def woNone : WO := fun _ P => P none
def woSome (w : WE) : WO := fun sl P => w sl fun x => ∃ i, x = .val (.int i) ∧ P (some i)
def oOf (K : PySem.W.Frag) (w : WO) : TO := fun σ H Q => ∃ F D A sl P, Sta K F D A H σ sl ∧ w sl P ∧ ∀ o H', Beh D H H' → P o → Q o H'
abbrev GO (X : Cx) (e : Option Expr) (w : WO) : Prop := PO X e (oOf X.K w)
theorem go_none : GO X none woNone := ⟨fun pins st σ H Q I ⟨F, D, A, sl, P, S, hw, q⟩ => po_none.run pins st σ H Q I (q none H (Beh.refl S) hw)⟩
theorem go_some {e : Expr} {w : WE} (h : GE X e w) : GO X (some e) (woSome w) := ⟨fun pins st σ H Q I ⟨F, D, A, sl, P, S, hw, q⟩ => (po_some h).run pins st σ H Q I ⟨F, D, A, sl, _, S, hw, fun v H1 x b1 ok hx => by
  obtain ⟨i, rfl, hp⟩ := hx
  cases ok
  exact ⟨i, rfl, q _ H1 b1 hp⟩⟩⟩
def rSl4 (K : PySem.W.Frag) : V → Option Int → Option Int → Hp → VK → Prop := fun x lo hi H Q => rSlA K x lo hi H Q ∨ (rSlL K x lo hi H Q ∨ rSlS x lo hi H Q)
theorem sl_4 : SlR X (rSl4 X.K) := SlR.or sl_tupA (SlR.or sl_list sl_str)
def wSl (a : WE) (l h : WO) : WE := fun sl P => a sl fun x => l sl fun lo => h sl fun hi => ∃ s z, x.tree = some s ∧ slT s lo hi = some z ∧ P (.val z)
theorem cut_rep {A : Avoid} {H : Hp} {vs : List V} {ts : List T} (lo hi : Option Int) (r : RepAll K A H vs ts) : RepAll K A H (cutV vs lo hi) (cutT ts lo hi) := by
  unfold cutV cutT
  rw [r.length]
  exact (r.drop _).take _
theorem cut_all {α : Type} {ts : List α} {lo hi : Option Int} (h : HT.sIx ts.length 0 lo = 0 ∧ HT.sIx ts.length ts.length hi = ts.length) : cutT ts lo hi = ts := by
  unfold cutT
  rw [h.1, h.2, List.drop_zero, Nat.sub_zero, List.take_length]
theorem ge_sl {a : Expr} {lo hi : Option Expr} {wa : WE} {wl wh : WO} {p2 pos : Pos} (ha : GE X a wa) (hl : GO X lo wl) (hh : GO X hi wh) : GE X (.Subscript a (.Slice lo hi none p2) pos) (wSl wa wl wh) := ge_of (pe_slice sl_4 ha hl hh) fun F D A H σ sl P Q S hw q =>
  ⟨F, D, A, sl, _, S, hw, fun u H1 x b1 ok1 hx => ⟨F, D, A, sl, _, S.beh b1, hx, fun lo H2 b2 hx2 => ⟨F, D, A, sl, _, (S.beh b1).beh b2, hx2, fun hi H3 b3 hx3 => by
    obtain ⟨s, z, e1, e2, hp⟩ := hx3
    have S3 := ((S.beh b1).beh b2).beh b3
    have ru := ((ok1.mono S.dA b2).mono S.dA b3).reads e1
    have fin : ∀ w H', Ext [] H3 H' → Rep X.K A H' w z → Q w H' := fun w H' e r => q w H' (.val z) (((b1.trans b2).trans b3).trans (Beh.of_ext S3 e)) r hp
    cases s with
    | tup ts =>
      cases e2
      obtain ⟨a, vs, rfl, h, r⟩ := ru.tup
      refine .inl ⟨a, vs, rfl, h, fun hz => ?_, fun hz p hpn => ?_⟩
      · rw [r.length] at hz
        rw [cut_all hz] at fin
        cases ru with | of ru => exact fin _ _ (Ext.refl H3) ru
      · exact fin _ _ (Ext.new hpn) (.tup (fresh_notin S3.alive hpn) upd_same ((cut_rep _ _ r).mono (Ext.new hpn)))
    | lst ts =>
      cases e2
      obtain ⟨a, vs, rfl, h, r⟩ := ru.lst
      exact .inr (.inl ⟨a, vs, rfl, .inl (.inl h), fun p hpn => fin _ _ (Ext.new hpn) (.lst (fresh_notin S3.alive hpn) upd_same ((cut_rep _ _ r).mono (Ext.new hpn)))⟩)
    | scr ts =>
      cases e2
      obtain ⟨a, vs, rfl, h, r⟩ := ru.scr
      exact .inr (.inl ⟨a, vs, rfl, h, fun p hpn => fin _ _ (Ext.new hpn) (.lst (fresh_notin S3.alive hpn) upd_same ((cut_rep _ _ r).mono (Ext.new hpn)))⟩)
    | str y =>
      simp only [slT] at e2
      split at e2
      · rename_i hf
        cases e2
        exact .inr (.inr ⟨y, ru.str, Tr.sz_of (few_of hf), fin _ _ (Ext.refl H3) (.str _)⟩)
      · cases e2
    | _ => cases e2⟩⟩⟩

/-! built-in functions -/
def treesR : List Sl → Option (List T)
  | [] => some []
  | x :: r => (match x.tree, treesR r with
    | some t, some ts => some (t :: ts)
    | _, _ => none)
abbrev RepSs (K : PySem.W.Frag) (A : Avoid) (H : Hp) : List V → List T → Prop := Paired (RepS K A H)
theorem treesR_ok {D A0 A : Avoid} {H : Hp} : ∀ {vs : List V} {xs : List Sl} {ts : List T}, Paired (SlOk K D A0 A H) vs xs → treesR xs = some ts → RepSs K A H vs ts
  | _, _, _, .nil, e => by cases e; exact .nil
  | _, x :: xs, ts, .cons h r, e => by
    unfold treesR at e
    cases e1 : x.tree with
    | none => rw [e1] at e; cases e
    | some t =>
      cases e2 : treesR xs with
      | none => rw [e1, e2] at e; cases e
      | some us =>
        rw [e1, e2] at e
        cases e
        exact .cons (h.reads e1) (treesR_ok r e2)
def SCall (K : PySem.W.Frag) (r : List V → Hp → VK → Prop) (f : List T → Option T) : Prop := ∀ (A : Avoid) (H : Hp) (vs : List V) (ts : List T) (z : T) (Q : VK), (∀ a ∈ A, H a ≠ none) → RepSs K A H vs ts → f ts = some z → (∀ w H', Ext [] H H' → Rep K A H' w z → Q w H') → r vs H Q
def wCB (f : List T → Option T) (a : WA) : WE := fun sl P => a sl fun xs => ∃ ts z, treesR xs = some ts ∧ f ts = some z ∧ P (.val z)
theorem se_cb {r : List V → Hp → VK → Prop} {f : List T → Option T} {a : WA} (h : SCall K r f) : SE K (tCB r (aOf K a)) (wCB f a) := fun F D A H σ sl P Q S hw q =>
  ⟨F, D, A, sl, _, S, hw, fun vs H1 xs b1 oks hx => by
    obtain ⟨ts, z, e1, e2, hp⟩ := hx
    have S1 := S.beh b1
    exact h A H1 vs ts z Q S1.alive (treesR_ok oks e1) e2 fun w H' e r => q w H' (.val z) (b1.trans (Beh.of_ext S1 e)) r hp⟩
theorem ge_cb {id : String} {r : List V → Hp → VK → Prop} {f : List T → Option T} {x : Str} {e : Expr} {es : List Expr} {a : WA} {p pos : Pos} (hc : CallR X (.builtin id) r) (h : SCall X.K r f) (hg : Gl X x) (hm : X.mg x = none) (hv : bootBuiltins x = some (.builtin id)) (ha : GA X (e :: es) a)
    (hn : x ≠ "__name__" := by decide) (hdb : (x == ("__debug__" : Str)) = false := by decide) (he : starEach (e :: es) X.env = (false, eval e X.env) :: starEach es X.env := by rfl) (hpl : (backTo pos (starEach es X.env)).any (·.1) = false := by rfl) :
    GE X (.Call (.Name x p) (e :: es) [] pos) (wCB f a) := ge_of (pe_callB hc hg hm hv ha hn hdb he hpl) (se_cb h)
theorem ge_cty {id : String} {r : List V → Hp → VK → Prop} {f : List T → Option T} {x : Str} {e : Expr} {es : List Expr} {a : WA} {p pos : Pos} (hc : CallR X (.type id) r) (h : SCall X.K r f) (hg : Gl X x) (hm : X.mg x = none) (hv : bootBuiltins x = some (.type id)) (ha : GA X (e :: es) a)
    (hn : x ≠ "__name__" := by decide) (hdb : (x == ("__debug__" : Str)) = false := by decide) (he : starEach (e :: es) X.env = (false, eval e X.env) :: starEach es X.env := by rfl) (hpl : (backTo pos (starEach es X.env)).any (·.1) = false := by rfl) :
    GE X (.Call (.Name x p) (e :: es) [] pos) (wCB f a) := ge_of (pe_callTy hc hg hm hv ha hn hdb he hpl) (se_cb h)
def lenT : List T → Option T
  | [.tup ts] => some (.int ts.length)
  | [.lst ts] => some (.int ts.length)
  | [.scr ts] => some (.int ts.length)
  | [.str x] => if few x.length = true then some (.int x.length) else none
  | _ => none
theorem one_of {P : V → T → Prop} {vs : List V} {t : T} (h : Paired P vs [t]) : ∃ v, vs = [v] ∧ P v t := by
  cases h with | cons h r => cases r; exact ⟨_, rfl, h⟩
theorem two_of {P : V → T → Prop} {vs : List V} {t u : T} (h : Paired P vs [t, u]) : ∃ v w, vs = [v, w] ∧ P v t ∧ P w u := by
  cases h with | cons h r => cases r with | cons h2 r => cases r; exact ⟨_, _, rfl, h, h2⟩
abbrev rLenA (K : PySem.W.Frag) : List V → Hp → VK → Prop := fun xs H Q => ∃ x n, xs = [x] ∧ LenV K x H n ∧ Q (.int n) H
theorem sc_len : SCall K (rLenA K) lenT := fun A H vs ts z Q al r e q => by
  match ts, r, e with
  | [.tup ts], r, e =>
    obtain ⟨v, rfl, rv⟩ := one_of r
    cases e
    obtain ⟨a, vs, rfl, h, r⟩ := rv.tup
    exact ⟨_, vs.length, rfl, .inr ⟨vs, h, rfl⟩, by rw [r.length]; exact q _ _ (Ext.refl H) (.int _)⟩
  | [.lst ts], r, e =>
    obtain ⟨v, rfl, rv⟩ := one_of r
    cases e
    obtain ⟨a, vs, rfl, h, r⟩ := rv.lst
    exact ⟨_, vs.length, rfl, .inl ⟨vs, .inl (.inl h), rfl⟩, by rw [r.length]; exact q _ _ (Ext.refl H) (.int _)⟩
  | [.scr ts], r, e =>
    obtain ⟨v, rfl, rv⟩ := one_of r
    cases e
    obtain ⟨a, vs, rfl, h, r⟩ := rv.scr
    exact ⟨_, vs.length, rfl, .inl ⟨vs, h, rfl⟩, by rw [r.length]; exact q _ _ (Ext.refl H) (.int _)⟩
  | [.str x], r, e =>
    obtain ⟨v, rfl, rv⟩ := one_of r
    simp only [lenT] at e
    split at e
    · rename_i hf
      cases e
      exact ⟨_, x.length, rfl, by rw [rv.str]; exact ⟨Tr.sz_of (few_of hf), rfl⟩, q _ _ (Ext.refl H) (.int _)⟩
    · cases e
def absT : List T → Option T
  | [.int i] => some (.int (if i < 0 then -i else i))
  | _ => none
theorem sc_abs : SCall K (fun xs H Q => ∃ i, xs = [.int i] ∧ Q (.int (if i < 0 then -i else i)) H) absT := fun A H vs ts z Q al r e q => by
  match ts, r, e with
  | [.int i], r, e =>
    obtain ⟨v, rfl, rv⟩ := one_of r
    cases e
    exact ⟨i, by rw [rv.int], q _ _ (Ext.refl H) (.int _)⟩
def max2T : List T → Option T
  | [.int i, .int j] => some (.int (if j > i then j else i))
  | _ => none
theorem sc_max2 : SCall K (fun xs H Q => ∃ i j, xs = [.int i, .int j] ∧ Q (.int (if j > i then j else i)) H) max2T := fun A H vs ts z Q al r e q => by
  match ts, r, e with
  | [.int i, .int j], r, e =>
    obtain ⟨v, w, rfl, rv, r2⟩ := two_of r
    cases e
    exact ⟨i, j, by rw [rv.int, r2.int], q _ _ (Ext.refl H) (.int _)⟩
def min2T : List T → Option T
  | [.int i, .int j] => some (.int (if j < i then j else i))
  | _ => none
theorem sc_min2 : SCall K (fun xs H Q => ∃ i j, xs = [.int i, .int j] ∧ Q (.int (if j < i then j else i)) H) min2T := fun A H vs ts z Q al r e q => by
  match ts, r, e with
  | [.int i, .int j], r, e =>
    obtain ⟨v, w, rfl, rv, r2⟩ := two_of r
    cases e
    exact ⟨i, j, by rw [rv.int, r2.int], q _ _ (Ext.refl H) (.int _)⟩
def intT : List T → Option T
  | [.int i] => some (.int i)
  | [.bl b] => some (.int (if b then 1 else 0))
  | _ => none
theorem sc_int : SCall K (fun xs H Q => (∃ i, xs = [.int i] ∧ Q (.int i) H) ∨ ∃ k, xs = [.bl k] ∧ Q (.int (if k then 1 else 0)) H) intT := fun A H vs ts z Q al r e q => by
  match ts, r, e with
  | [.int i], r, e =>
    obtain ⟨v, rfl, rv⟩ := one_of r
    cases e
    exact .inl ⟨i, by rw [rv.int], q _ _ (Ext.refl H) (.int _)⟩
  | [.bl i], r, e =>
    obtain ⟨v, rfl, rv⟩ := one_of r
    cases e
    exact .inr ⟨i, by rw [rv.bl], q _ _ (Ext.refl H) (.int _)⟩
def reprT : List T → Option T
  | [.bl b] => some (.str (if b then "True" else "False"))
  | _ => none
def intsOf : List T → Option (List Int)
  | [] => some []
  | .int i :: r => (match intsOf r with
    | some ns => some (i :: ns)
    | none => none)
  | _ :: _ => none
theorem intsOf_map (ns : List Int) : intsOf (ns.map T.int) = some ns := by
  induction ns with
  | nil => rfl
  | cons n r ih =>
    show (match intsOf (r.map T.int) with
      | some ns => some (n :: ns)
      | none => none) = _
    rw [ih]
def blsOf : List T → Option (List Bool)
  | [] => some []
  | .bl i :: r => (match blsOf r with
    | some ns => some (i :: ns)
    | none => none)
  | _ :: _ => none
theorem blsOf_eq : ∀ {ts : List T} {ns : List Bool}, blsOf ts = some ns → ts = ns.map T.bl
  | [], _, e => by cases e; rfl
  | t :: r, ns, e => by
    cases t with
    | bl i =>
      unfold blsOf at e
      cases h : blsOf r with
      | none => rw [h] at e; cases e
      | some ms =>
        rw [h] at e
        cases e
        rw [blsOf_eq h]
        rfl
    | _ => cases e
theorem blsOf_map (ns : List Bool) : blsOf (ns.map T.bl) = some ns := by
  induction ns with
  | nil => rfl
  | cons n r ih =>
    show (match blsOf (r.map T.bl) with
      | some ns => some (n :: ns)
      | none => none) = _
    rw [ih]
def sumT : List T → Option T
  | [.lst ts] => (intsOf ts).map fun ns => .int ns.sum
  | _ => none
def allT : List T → Option T
  | [.lst ts] => (blsOf ts).map fun ns => .bl (ns.all id)
  | _ => none
theorem sc_all : SCall K (rAll K) allT := fun A H vs ts z Q al r e q => by
  match ts, r, e with
  | [.lst ts], r, e =>
    obtain ⟨v, rfl, rv⟩ := one_of r
    obtain ⟨ns, e1, rfl⟩ := Option.map_eq_some_iff.mp (show (blsOf ts).map (fun ns => T.bl (ns.all id)) = some z from e)
    obtain ⟨a, vs, rfl, h, r⟩ := rv.lst
    rw [blsOf_eq e1] at r
    rw [r.bls] at h
    exact ⟨a, ns, rfl, .inl (.inl h), q _ _ (Ext.refl H) (.bl _)⟩
def anyT : List T → Option T
  | [.lst ts] => (blsOf ts).map fun ns => .bl (ns.any id)
  | _ => none
/-- isinstance -/
def tyT : T → String
  | .non => "NoneType" | .bl _ => "bool" | .int _ => "int" | .str _ => "str" | .tup _ => "tuple" | .lst _ => "list" | .scr _ => "list" | .dct _ _ => "dict" | _ => ""
def isiT : List T → Option T
  | [.ins _ _ _, _] => none
  | [.ty _, _] => none
  | [.fn _, _] => none
  | [.exc _ _ _ _, _] => none
  | [x, .ty n] => (kitB (tyT x) n).map fun b => .bl b
  | _ => none
theorem ty_ok {A : Avoid} {H : Hp} {v : V} {t : T} (r : RepS K A H v t) (h1 : ∀ C ns ts, t ≠ .ins C ns ts) (h2 : ∀ n, t ≠ .ty n) (h3 : tyT t ≠ "") : TyX K H v (.type (tyT t)) := by
  cases r with
  | own h r => exact .base (.lst h)
  | ownd h l r => exact .base (.dK h)
  | of r =>
    cases r with
    | non => exact .base .non
    | bl b => exact .base (.bl b)
    | int i => exact .base (.int i)
    | str x => exact .base (.str x)
    | ty n => exact absurd rfl (h2 n)
    | tup n h r => exact .base (.tup h)
    | tupK h r => obtain ⟨o, its, n, h1, h2, _⟩ := h; exact .kTuple h1 h2
    | lst n h r => exact .base (.lst h)
    | scr n h r => exact .base (.frz h)
    | scrK h r => obtain ⟨o, its, n, h1, h2, _⟩ := h; exact .kList h1 h2
    | dct n h l r => exact h.elim (fun h => .base (.dK h)) fun ⟨_, h⟩ => .fDict h
    | ins n m h k l r => exact absurd rfl (h1 _ _ _)
    | fn a => exact absurd rfl h3
    | exc n h r => exact absurd rfl h3
theorem isi_eq {x : T} {n : String} {z : T} (e : isiT [x, .ty n] = some z) : (∀ C ns ts, x ≠ .ins C ns ts) ∧ (∀ n, x ≠ .ty n) ∧ tyT x ≠ "" ∧ ∃ b, kitB (tyT x) n = some b ∧ z = .bl b := by
  have h1 : ∀ C ns ts, x ≠ .ins C ns ts := fun C ns ts z => by subst z; cases e
  have h2 : ∀ n, x ≠ .ty n := fun n z => by subst z; cases e
  have h3 : tyT x ≠ "" := by cases x <;> first | exact absurd rfl (h1 _ _ _) | exact absurd rfl (h2 _) | (intro z; simp [tyT] at z; done) | (intro z; cases e)
  have e' : (kitB (tyT x) n).map (fun b => T.bl b) = some z := by
    cases x <;> first | exact e | exact absurd rfl (h1 _ _ _) | exact absurd rfl (h2 _) | exact absurd rfl h3
  obtain ⟨b, e1, rfl⟩ := Option.map_eq_some_iff.mp e'
  exact ⟨h1, h2, h3, b, e1, rfl⟩
theorem sc_isi : SCall K (rIsi K) isiT := fun A H vs ts z Q al r e q => by
  match ts, r, e with
  | [], _, e => cases e
  | [x], _, e => cases x <;> cases e
  | [x, .ty n], r, e =>
    obtain ⟨v, w, rfl, rv, r2⟩ := two_of r
    obtain ⟨h1, h2, h3, b, e1, rfl⟩ := isi_eq e
    refine ⟨v, w, .type (tyT x), .type n, b, rfl, ?_, ty_ok rv h1 h2 h3, kit_ty e1, q _ _ (Ext.refl H) (.bl _)⟩
    rw [r2.ty]
    exact .ty n
  | [x, .non], _, e => cases x <;> cases e
  | [x, .bl _], _, e => cases x <;> cases e
  | [x, .int _], _, e => cases x <;> cases e
  | [x, .str _], _, e => cases x <;> cases e
  | [x, .tup _], _, e => cases x <;> cases e
  | [x, .lst _], _, e => cases x <;> cases e
  | [x, .scr _], _, e => cases x <;> cases e
  | [x, .dct _ _], _, e => cases x <;> cases e
  | [x, .ins _ _ _], _, e => cases x <;> cases e
  | [x, .fn _], _, e => cases x <;> cases e
  | [x, .exc _ _ _ _], _, e => cases x <;> cases e
  | x :: y :: w :: us, _, e => cases x <;> cases y <;> cases e
/-- tuple(x) of a list, of a tuple -/
def tupleT : List T → Option T
  | [.tup ts] => some (.tup ts)
  | [.lst ts] => some (.tup ts)
  | [.scr ts] => some (.tup ts)
  | _ => none
abbrev rTupA (K : PySem.W.Frag) : List V → Hp → VK → Prop := fun xs H Q => ∃ p ys, xs = [.ref p] ∧ ((SqL K H p ys ∧ ∀ l, H l = none → Q (.ref l) (upd H l (.tup ys))) ∨ (SqT K H p ys ∧ Q (.ref p) H))
theorem sc_tuple : SCall K (rTupA K) tupleT := fun A H vs ts z Q al r e q => by
  match ts, r, e with
  | [.tup ts], r, e =>
    obtain ⟨v, rfl, rv⟩ := one_of r
    cases e
    obtain ⟨a, vs, rfl, h, r1⟩ := rv.tup
    cases rv with | of r => exact ⟨a, vs, rfl, .inr ⟨h, q _ _ (Ext.refl H) r⟩⟩
  | [.lst ts], r, e =>
    obtain ⟨v, rfl, rv⟩ := one_of r
    cases e
    obtain ⟨a, vs, rfl, h, r1⟩ := rv.lst
    exact ⟨a, vs, rfl, .inl ⟨.inl (.inl h), fun l hl => q _ _ (Ext.new hl) (.tup (fresh_notin al hl) upd_same (r1.mono (Ext.new hl)))⟩⟩
  | [.scr ts], r, e =>
    obtain ⟨v, rfl, rv⟩ := one_of r
    cases e
    obtain ⟨a, vs, rfl, h, r1⟩ := rv.scr
    exact ⟨a, vs, rfl, .inl ⟨h, fun l hl => q _ _ (Ext.new hl) (.tup (fresh_notin al hl) upd_same (r1.mono (Ext.new hl)))⟩⟩
/-- list(x), new -/
abbrev rLstA (K : PySem.W.Frag) : List V → Hp → VK → Prop := fun xs H Q => ∃ p ys, xs = [.ref p] ∧ (SqL K H p ys ∨ SqT K H p ys) ∧ ∀ l, H l = none → Q (.ref l) (upd H l (.lst ys))
def wLstOf (a : WA) : WL := fun sl P => a sl fun xs => ∃ x t ts, xs = [x] ∧ x.tree = some t ∧ t.seq = some ts ∧ P ts
/-- -a -/
def negT : T → Option T
  | .int i => some (.int (-i))
  | _ => none
def wUn (f : T → Option T) (a : WE) : WE := fun sl P => a sl fun x => ∃ s z, x.tree = some s ∧ f s = some z ∧ P (.val z)
theorem ge_neg {a : Expr} {wa : WE} {pos : Pos} (ha : GE X a wa) : GE X (.UnaryOp .USub a pos) (wUn negT wa) := ge_of (pe_un un_neg ha) fun F D A H σ sl P Q S hw q =>
  ⟨F, D, A, sl, _, S, hw, fun v H1 x b1 ok hx => by
    obtain ⟨s, z, e1, e2, hp⟩ := hx
    have r := ok.reads e1
    cases s with
    | int i => cases e2; exact ⟨i, r.int, q _ H1 (.val (.int (-i))) b1 (Rep.int _) hp⟩
    | _ => cases e2⟩
/-- a new list of two -/
def wCatL (a b : WE) : WL := fun sl P => a sl fun x => b sl fun y => ∃ xs ys, x.tree = some (.lst xs) ∧ y.tree = some (.lst ys) ∧ few (xs.length + ys.length) = true ∧ P (xs ++ ys)
/-- the greatest, the least of a list of whole numbers -/
def wMaxL (w : WA) : WE := fun sl P => w sl fun xs => ∃ (x : Sl) (ns : List Int), xs = [x] ∧ x.tree = some (.lst (ns.map T.int)) ∧ 0 < ns.length ∧ ∀ m, m ∈ ns → (∀ y, y ∈ ns → y ≤ m) → P (.val (.int m))
/-! a def of one's own -/
def ArgOk (K : PySem.W.Frag) (D A : Avoid) (H : Hp) (v : V) : Sl → Prop
  | .val t => Rep K A H v t
  | .dice => ∃ d, v = .ref d ∧ d ∈ D ∧ DiceAt H d
  | _ => False
def isArg : Sl → Bool
  | .val _ => true
  | .dice => true
  | _ => false
def RetOk (K : PySem.W.Frag) (A : Avoid) (H : Hp) (v : V) : Sl → Prop
  | .val t => Rep K A H v t
  | _ => False
def spT (K : PySem.W.Frag) (wf : WF) : Sp := fun vs H Q _ => ∃ D A xs P, (∀ d ∈ D, MovAt H d) ∧ (∀ d ∈ D, d ∈ A) ∧ Liv D A H ∧ Paired (ArgOk K D A H) vs xs ∧ wf xs P ∧ ∀ v H' x, Beh D H H' → RetOk K A H' v x → P x → Q v H'
def wCall (wf : WF) (dts : List T) (a : WA) : WE := fun sl P => a sl fun xs => xs.all isArg = true ∧ wf (xs ++ dts.map Sl.val) P
theorem args_ok {D A0 A : Avoid} {H : Hp} : ∀ {vs : List V} {xs : List Sl}, Paired (SlOk K D A0 A H) vs xs → xs.all isArg = true → Paired (ArgOk K D A H) vs xs
  | _, _, .nil, _ => .nil
  | _, x :: xs, .cons h r, e => by
    rw [List.all_cons, Bool.and_eq_true] at e
    refine .cons ?_ (args_ok r e.2)
    cases x with
    | val t => exact h
    | dice => exact h
    | any => cases e.1
    | ob l ts => cases e.1
inductive CTs : List V → List T → Prop
  | nil : CTs [] []
  | cons {v : V} {t : T} {vs : List V} {ts : List T} : CT v t → CTs vs ts → CTs (v :: vs) (t :: ts)
theorem CTs.args {D A : Avoid} {H : Hp} : ∀ {vs : List V} {ts : List T}, CTs vs ts → Paired (ArgOk K D A H) vs (ts.map Sl.val)
  | _, _, .nil => .nil
  | _, _, .cons h r => .cons (show ArgOk K D A H _ (.val _) from h.rep) (CTs.args r)
theorem Paired.app {α β : Type} {R : α → β → Prop} : ∀ {xs xs' : List α} {ys ys' : List β}, Paired R xs ys → Paired R xs' ys' → Paired R (xs ++ xs') (ys ++ ys')
  | _, _, _, _, .nil, s => s
  | _, _, _, _, .cons h r, s => .cons h (Paired.app r s)
theorem se_call {wf : WF} {dvs : List V} {dts : List T} {a : WA} {E : XK} (hd : CTs dvs dts) : SE K (tCall (spT K wf) dvs E (aOf K a)) (wCall wf dts a) := fun F D A H σ sl P Q S hw q =>
  ⟨F, D, A, sl, _, S, hw, fun vs H1 xs b1 oks hx => by
    obtain ⟨e1, hp⟩ := hx
    have S1 := S.beh b1
    refine ⟨D, A, _, P, S1.dice, S1.dA, S1.liv, Paired.app (args_ok oks e1) hd.args, hp, fun v H' x b2 ok hx => q v H' x (b1.trans b2) ?_ hx⟩
    cases x with
    | val t => exact ok
    | _ => exact ok.elim⟩
theorem ge_call {k : Nat} {f : Addr} {fd : FuncData} {ps : List Str} {wf : WF} {dvs : List V} {ds : List Value} {dts : List T} {x : Str} {e : Expr} {es : List Expr} {a : WA} {p pos : Pos}
    (F : FnOk X.prog X.w X.K X.mg X.base CX0 k f fd ps (spT X.K wf)) (hr : Room k X.A) (hg : Gl X x) (hm : X.mg x = some (.ref f)) (hk : PySem.W.keepIn X.K (.ref f) = true) (hb : Binds X.K fd ps ds) (hd : Vals dvs ds) (hc : CTs dvs dts)
    (ha : GA X (e :: es) a) (hdb : (x == ("__debug__" : Str)) = false := by decide) (he : starEach (e :: es) X.env = (false, eval e X.env) :: starEach es X.env := by rfl) (hpl : (backTo pos (starEach es X.env)).any (·.1) = false := by rfl) :
    GE X (.Call (.Name x p) (e :: es) [] pos) (wCall wf dts a) := ge_of (pe_call F hr hg hm hk hb hd pass0 ha hdb he hpl) (se_call hc)
end
end Tr


set_option Elab.async false
set_option linter.all false
set_option maxRecDepth 100000
set_option maxHeartbeats 0
namespace Tr
open PySem PySem.Spec PyProof.Rows L2
variable [Tabl]
section
variable {X : Cx} {K : PySem.W.Frag}
/-! ### 8. the state changes: a slot is set, forgotten; a new object of one's own; one's own object is written -/
theorem set_own {sl : List Sl} {i j : Nat} {x : Sl} {l : Addr} {ts : OwnT} (h : (sl.set i x)[j]? = some (Sl.ob l ts)) : (i = j ∧ x = .ob l ts) ∨ (i ≠ j ∧ sl[j]? = some (Sl.ob l ts)) := by
  by_cases e : i = j
  · subst e
    by_cases hl : i < sl.length
    · rw [List.getElem?_set_self hl] at h
      exact .inl ⟨rfl, Option.some.inj h⟩
    · rw [List.getElem?_eq_none (by rw [List.length_set]; omega)] at h
      cases h
  · rw [List.getElem?_set_ne e] at h
    exact .inr ⟨e, h⟩
theorem Dist.set {sl : List Sl} {i : Nat} {x : Sl} (d : Dist sl) (hx : ∀ l ts, x ≠ .ob l ts) : Dist (sl.set i x) := fun a b l l' ts ts' h1 h2 n => by
  rcases set_own h1 with ⟨_, e⟩ | ⟨_, e⟩
  · exact absurd e (hx _ _)
  · rcases set_own h2 with ⟨_, e'⟩ | ⟨_, e'⟩
    · exact absurd e' (hx _ _)
    · exact d a b l l' ts ts' e e' n
theorem Dist.setOwn {sl : List Sl} {i : Nat} {l : Addr} {ts : OwnT} (d : Dist sl) (no : ∀ (j : Nat) (l' : Addr) (ts' : OwnT), j ≠ i → sl[j]? = some (Sl.ob l' ts') → l' ≠ l) : Dist (sl.set i (.ob l ts)) := fun a b l1 l2 t1 t2 h1 h2 n => by
  rcases set_own h1 with ⟨rfl, e⟩ | ⟨n1, e⟩
  · cases e
    rcases set_own h2 with ⟨rfl, e'⟩ | ⟨n2, e'⟩
    · exact absurd rfl n
    · exact (no _ _ _ (fun z => n2 z.symm) e').symm
  · rcases set_own h2 with ⟨rfl, e'⟩ | ⟨n2, e'⟩
    · cases e'
      exact no _ _ _ (fun z => n1 z.symm) e
    · exact d a b _ _ _ _ e e' n
variable {F : Fx} {D A : Avoid} {H H' : Hp} {σ : L2.St} {sl : List Sl} {v : V} {x : Sl} {i : Nat}
theorem Sta.set (S : Sta K F D A H σ sl) (ok : SlOk K D F.A0 A H v x) (hx : ∀ l ts, x ≠ .ob l ts) : Sta K F D A H (σ.set i (some v)) (sl.set i x) :=
  { S with slots := Paired.setP (.inr ⟨v, rfl, ok⟩) i S.slots, dist := S.dist.set hx }
theorem paired_set_right {α β : Type} {R : α → β → Prop} {y : β} : ∀ {xs : List α} {ys : List β} (i : Nat), Paired R xs ys → (∀ x, xs[i]? = some x → R x y) → Paired R xs (ys.set i y)
  | _, _, _, .nil, _ => .nil
  | _, _, 0, .cons _ r, h => .cons (h _ rfl) r
  | _, _, n + 1, .cons q r, h => .cons q (paired_set_right n r fun x e => h x (by simpa using e))
/-- a slot is forgotten -/
theorem Sta.forget (S : Sta K F D A H σ sl) (i : Nat) : Sta K F D A H σ (sl.set i .any) :=
  { S with slots := paired_set_right i S.slots fun _ _ => .inl rfl, dist := S.dist.set fun _ _ z => nomatch z }
theorem Sta.wipe1 (S : Sta K F D A H σ sl) (i : Nat) : Sta K F D A H (σ.set i none) (sl.set i .any) :=
  { S with slots := Paired.setP (.inl rfl) i S.slots, dist := S.dist.set fun _ _ z => nomatch z }
def wipeS (sl : List Sl) : List Nat → List Sl
  | [] => sl
  | v :: vs => (wipeS sl vs).set v .any
theorem Sta.wipe (S : Sta K F D A H σ sl) : ∀ vs : List Nat, Sta K F D A H (L2.wipe σ vs) (wipeS sl vs)
  | [] => S
  | v :: vs => (Sta.wipe S vs).wipe1 v
theorem Sta.fresh0 (S : Sta K F D A H σ sl) {p : Addr} (hp : H p = none) : F.H0 p = none := by
  cases e : F.H0 p with
  | none => rfl
  | some o =>
    by_cases hd : p ∈ F.D0
    · exact absurd hp (S.dice p (S.dsub p hd)).here
    · rw [S.ext p o hd e] at hp; cases hp
/-- a new object that may be changed -/
theorem Sta.grow (S : Sta K F D A H σ sl) {p : Addr} {o : HO} (hp : H p = none) : Sta K F D (p :: A) (upd H p o) σ sl where
  dice := fun d hd => (S.dice d hd).keep (Keep.new hp)
  keep := fun d hd => (S.keep d hd).trans (Keep.new hp)
  tabs := S.tabs
  dA := fun d hd => List.mem_cons_of_mem _ (S.dA d hd)
  sub := fun a ha => List.mem_cons_of_mem _ (S.sub a ha)
  alive := fun a ha => by
    by_cases e : a = p
    · subst e; rw [upd_same]; exact fun z => nomatch z
    · rw [upd_ne e]
      rcases List.mem_cons.mp ha with z | z
      · exact absurd z e
      · exact S.alive a z
  base := fun a ha => by
    rcases List.mem_cons.mp ha with z | z
    · subst z; exact .inr (S.fresh0 hp)
    · exact S.base a z
  dbase := S.dbase
  dsub := S.dsub
  ext := fun a u n q => by
    have h := S.ext a u n q
    rw [upd_ne (ne_of_none h hp)]
    exact h
  slots := Paired.imp (fun o x q => by
    rcases q with q | ⟨v, q1, q2⟩
    · exact .inl q
    · refine .inr ⟨v, q1, ?_⟩
      cases x with
      | any => trivial
      | val t => exact Rep.mono (Ext.new hp) (Rep.more hp q2)
      | dice =>
        obtain ⟨d, g1, g2, g3⟩ := q2
        exact ⟨d, g1, g2, (Keep.new hp).1 g3⟩
      | ob l ts =>
        obtain ⟨h1, h2, h3, h4, h5⟩ := q2
        exact ⟨h1, List.mem_cons_of_mem _ h2, h3, h4, h5.map (fun u q => by rw [upd_ne (ne_of_none q hp)]; exact q) fun _ _ r => (r.more hp).mono (Ext.new hp)⟩) S.slots
  dist := S.dist
  gh := fun q hq => ((S.gh q hq).more hp).mono (Ext.new hp)
  lk := fun q hq => ⟨fun z => by
    rcases List.mem_cons.mp z with z | z
    · have e := (S.lk q hq).2
      rw [z, hp] at e
      cases e
    · exact (S.lk q hq).1 z, Ext.new (A := []) hp q.1 _ (fun z => (nomatch z)) (S.lk q hq).2⟩
/-- an object of one's own that no slot names is written -/
theorem Sta.write (S : Sta K F D A H σ sl) {l : Addr} {o : HO} (h1 : l ∈ A) (h2 : l ∉ F.A0) (h3 : l ∉ D) (no : ∀ (j : Nat) (l' : Addr) (ts : OwnT), sl[j]? = some (Sl.ob l' ts) → l' ≠ l) (hx : ∀ φ, H l ≠ some (.ext φ)) : Sta K F D A (upd H l o) σ sl where
  dice := fun d hd => (S.dice d hd).keep (Keep.upd (fun z => h3 (by rw [← z]; exact hd)) hx)
  keep := fun d hd => (S.keep d hd).trans (Keep.upd (fun z => h3 (by rw [← z]; exact S.dsub d hd)) hx)
  tabs := S.tabs
  dA := S.dA
  sub := S.sub
  alive := fun a ha => by
    by_cases e : a = l
    · subst e; rw [upd_same]; exact fun z => nomatch z
    · rw [upd_ne e]; exact S.alive a ha
  base := S.base
  dbase := S.dbase
  dsub := S.dsub
  ext := fun a u n q => by
    have h := S.ext a u n q
    have e : a ≠ l := fun z => by
      subst z
      rcases S.base a h1 with z | z
      · exact h2 z
      · rw [z] at q; cases q
    rw [upd_ne e]
    exact h
  slots := by
    have all : ∀ {τ : L2.St} {ss : List Sl}, Slots K D F.A0 A H τ ss → (∀ (j : Nat) (l' : Addr) (ts : OwnT), ss[j]? = some (Sl.ob l' ts) → l' ≠ l) → Slots K D F.A0 A (upd H l o) τ ss := by
      intro τ ss r
      induction r with
      | nil => exact fun _ => .nil
      | @cons a b as bs q r ih =>
        intro no
        refine .cons ?_ (ih fun j l' ts e => no (j + 1) l' ts (by simpa using e))
        rcases q with q | ⟨v, q1, q2⟩
        · exact .inl q
        · refine .inr ⟨v, q1, ?_⟩
          cases b with
          | any => trivial
          | val t => exact Rep.mono (Ext.mut h1) q2
          | dice =>
            obtain ⟨d, g1, g2, g3⟩ := q2
            exact ⟨d, g1, g2, (Keep.upd (fun z => h3 (by rw [← z]; exact g2)) hx).1 g3⟩
          | ob l' ts =>
            obtain ⟨g1, g2, g3, g4, g5⟩ := q2
            exact ⟨g1, g2, g3, g4, g5.map (fun u q => by rw [upd_ne (no 0 l' ts rfl)]; exact q) fun _ _ r => r.mono (Ext.mut h1)⟩
    exact all S.slots no
  dist := S.dist
  gh := fun q hq => (S.gh q hq).mono (Ext.mut h1)
  lk := fun q hq => ⟨(S.lk q hq).1, Ext.mut h1 q.1 _ (S.lk q hq).1 (S.lk q hq).2⟩
/-- a slot holds an object of one's own -/
theorem Sta.putO (S : Sta K F D A H σ sl) {l : Addr} {o : OwnT} (hσ : ∀ o, σ[i]? = some o → o = some (.ref l)) (h1 : l ∈ A) (h2 : l ∉ F.A0) (h3 : l ∉ D) (hl : OwnAt K A H l o)
    (no : ∀ (j : Nat) (l' : Addr) (ts' : OwnT), j ≠ i → sl[j]? = some (Sl.ob l' ts') → l' ≠ l) : Sta K F D A H σ (sl.set i (.ob l o)) :=
  { S with
    slots := paired_set_right i S.slots fun o e => .inr ⟨.ref l, hσ o e, rfl, h1, h2, h3, hl⟩
    dist := S.dist.setOwn no }
theorem Sta.put (S : Sta K F D A H σ sl) {l : Addr} {vs : List V} {ts : List T} (hσ : ∀ o, σ[i]? = some o → o = some (.ref l)) (h1 : l ∈ A) (h2 : l ∉ F.A0) (h3 : l ∉ D) (hl : H l = some (.lst vs)) (r : RepAll K A H vs ts)
    (no : ∀ (j : Nat) (l' : Addr) (ts' : OwnT), j ≠ i → sl[j]? = some (Sl.ob l' ts') → l' ≠ l) : Sta K F D A H σ (sl.set i (.own l ts)) := S.putO (o := .lst ts) hσ h1 h2 h3 ⟨vs, hl, r⟩ no
/-- an object of one's own in the slot i is changed -/
theorem Sta.growO (S : Sta K F D A H σ sl) {l : Addr} {o o' : OwnT} {u : HO} (hi : sl[i]? = some (.ob l o)) (ha : OwnAt K A (upd H l u) l o') : Sta K F D A (upd H l u) σ (sl.set i (.ob l o')) := by
  obtain ⟨v, hv, rfl, h1, h2, h3, own⟩ := S.get hi (fun z => nomatch z)
  have no1 : ∀ (j : Nat) (l' : Addr) (ts' : OwnT), (sl.set i .any)[j]? = some (Sl.ob l' ts') → l' ≠ l := fun j l' ts' e => by
    rcases set_own e with ⟨_, z⟩ | ⟨n, z⟩
    · cases z
    · exact S.dist j i l' l ts' o z hi (fun z => n z.symm)
  have S1 := (S.forget i).write (o := u) h1 h2 h3 no1 own.noext
  have S2 := S1.putO (i := i) (l := l) (o := o') (fun o e => by rw [hv] at e; exact (Option.some.inj e).symm) h1 h2 h3 ha (fun j l' ts' _ e => no1 j l' ts' e)
  rw [List.set_set] at S2
  exact S2
/-- l.append(v), l in the slot i -/
theorem Sta.grow1 (S : Sta K F D A H σ sl) {l : Addr} {vs : List V} {ts us : List T} {ws : List V} (hi : sl[i]? = some (.own l ts)) (hn : H l = some (.lst vs)) (r : RepAll K A H ws us) : Sta K F D A (upd H l (.lst ws)) σ (sl.set i (.own l us)) := by
  obtain ⟨v, hv, rfl, h1, h2, h3, _⟩ := S.get hi (fun z => nomatch z)
  exact S.growO hi ⟨ws, upd_same, r.mono (Ext.mut h1)⟩

/-! ### 9. what is walked -/
/-- pairs (number, item) -/
def enT : Nat → List T → List T
  | _, [] => []
  | k, t :: ts => .tup [.int (k : Nat), t] :: enT (k + 1) ts
theorem enT_length : ∀ (k : Nat) (ts : List T), (enT k ts).length = ts.length
  | _, [] => rfl
  | k, t :: ts => congrArg (· + 1) (enT_length (k + 1) ts)
theorem enT_get : ∀ (k : Nat) (ts : List T) (i : Nat), (enT k ts)[i]? = (ts[i]?).map fun t => T.tup [.int ((k + i : Nat) : Int), t]
  | _, [], i => by simp [enT]
  | k, t :: ts, 0 => by simp [enT]
  | k, t :: ts, i + 1 => by
    rw [enT, List.getElem?_cons_succ, List.getElem?_cons_succ, enT_get (k + 1) ts i]
    rw [show k + 1 + i = k + (i + 1) by omega]
/-- the signs of a text -/
def sgnT (x : Str) : List T := x.cps.toList.map fun c => .str ⟨#[c]⟩
/-- a key as a tree -/
def keyW : Key → T
  | .inl i => .int i
  | .inr z => .str z
theorem keyW_rep {K : PySem.W.Frag} {A : Avoid} {H : Hp} : ∀ k : Key, Rep K A H (kV k) (keyW k)
  | .inl i => .int i
  | .inr z => .str z
inductive ItOk (K : PySem.W.Frag) (A : Avoid) (H : Hp) : It → List T → Prop
  | lst {a : Addr} {ts : List T} : Rep K A H (.ref a) (.lst ts) → ItOk K A H (Itl K a) ts
  | scr {a : Addr} {ts : List T} : Rep K A H (.ref a) (.scr ts) → ItOk K A H (Itl K a) ts
  | tup {a : Addr} {ts : List T} : Rep K A H (.ref a) (.tup ts) → ItOk K A H (Itt K a) ts
  | rng {lo : Int} {n : Nat} : ItOk K A H (Itr lo n) ((List.range n).map fun i => .int (lo + (i : Nat)))
  | rngD {lo : Int} {n : Nat} : ItOk K A H (Itc lo (-1) n) ((List.range n).map fun i => .int (lo - (i : Nat)))
  | zipM {a b : Addr} {ts us : List T} : Rep K A H (.ref a) (.lst ts) → Rep K A H (.ref b) (.tup us) → ItOk K A H (Zp.ItM K a b) (List.zipWith (fun x y => T.tup [x, y]) ts us)
  | enL {a : Addr} {ts : List T} : Rep K A H (.ref a) (.lst ts) → ItOk K A H (Ite K a) (enT 0 ts)
  | enT {a : Addr} {ts : List T} : Rep K A H (.ref a) (.tup ts) → ItOk K A H (En.ItT K a) (enT 0 ts)
  | sgn {x : Str} : ItOk K A H (Its x) (sgnT x)
  | zipL {a b : Addr} {ts us : List T} : Rep K A H (.ref a) (.lst ts) → Rep K A H (.ref b) (.lst us) → ItOk K A H (Itz K a b) (List.zipWith (fun x y => T.tup [x, y]) ts us)
  | zipT {a b : Addr} {ts us : List T} : Rep K A H (.ref a) (.tup ts) → Rep K A H (.ref b) (.tup us) → ItOk K A H (RZ.ItzT K a b) (List.zipWith (fun x y => T.tup [x, y]) ts us)
  | itm {d : Addr} {o : Obj} {ks : List Key} {vs : List V} {ts : List T} : d ∉ A → H d = some (.frz o (.dK (ks.zip vs))) → ks.length = vs.length → RepAll K A H vs ts → ItOk K A H (Iti d o (ks.zip vs)) (List.zipWith (fun k t => T.tup [keyW k, t]) ks ts)
  | key {d : Addr} {o : Obj} {ks : List Key} {vs : List V} : d ∉ A → H d = some (.frz o (.dK (ks.zip vs))) → ks.length = vs.length → ItOk K A H (Itk d o (ks.zip vs)) (ks.map keyW)
  | vals {d : Addr} {o : Obj} {ks : List Key} {vs : List V} {ts : List T} : d ∉ A → H d = some (.frz o (.dK (ks.zip vs))) → ks.length = vs.length → RepAll K A H vs ts → ItOk K A H (Itd d o (ks.zip vs)) ts
abbrev WI := List Sl → (List T → Prop) → Prop
def iOf (K : PySem.W.Frag) (w : WI) : TI := fun σ H R => ∃ F D A sl P, Sta K F D A H σ sl ∧ w sl P ∧ ∀ J H' ts, Beh D H H' → ItOk K A H' J ts → P ts → R J H'
abbrev GI (X : Cx) (tg iter : Expr) (w : WI) : Prop := PI X tg iter (iOf X.K w)
def iSeq (K : PySem.W.Frag) (te : TE) : TI := fun σ H R => te σ H fun x H1 => ∃ a, x = .ref a ∧ ((∃ xs, SqL K H1 a xs) ∧ R (Itl K a) H1 ∨ (∃ xs, SqT K H1 a xs) ∧ R (Itt K a) H1)
theorem pi_seq {tg l : Expr} {tl : TE} (hl : PE X l tl) : PI X tg l (iSeq X.K tl) := by
  refine ⟨fun pins s σ H R I h => ?_⟩
  refine thn (hl.run pins s σ H _ I h) fun v s1 ⟨x, H1, I1, r1, q1⟩ => ?_
  obtain ⟨a, e, q⟩ := q1
  subst e
  rcases q with ⟨⟨xs, hq⟩, q⟩ | ⟨⟨xs, hq⟩, q⟩
  · cases r1
    obtain ⟨its, rv, p, hz⟩ := I1.list hq
    refine wpAny_pyIter_list p.isList ?_
    refine ⟨s1.heap.objs.size, [s1.heap.objs.size], _, _, H1, rfl, I1.kept (t' := s1.toks) fun b o e => Heap.get?_push_of_some _ e, turn_list a _, ⟨_, Heap.get?_push_size _ rfl, rfl, rfl⟩, fun b hb => ?_, q⟩
    have e : b = s1.heap.objs.size := by simpa using hb
    subst e
    exact I1.fpOk (Nat.le_refl _) (I1.hok.fresh (Nat.le_refl _))
  · cases r1
    obtain ⟨its, rv, p, hz⟩ := I1.tuple hq
    refine wpAny_pyIter_tuple (show s1.heap.IsTuple a its.toArray from p) ?_
    refine ⟨s1.heap.objs.size, [s1.heap.objs.size], _, _, H1, rfl, I1.kept (t' := s1.toks) fun b o e => Heap.get?_push_of_some _ e, turn_tuple a _, ⟨_, Heap.get?_push_size _ rfl, rfl, rfl⟩, fun b hb => ?_, q⟩
    have e : b = s1.heap.objs.size := by simpa using hb
    subst e
    exact I1.fpOk (Nat.le_refl _) (I1.hok.fresh (Nat.le_refl _))
theorem gi_of {tg l : Expr} {t : TI} {w : WI} (h : PI X tg l t) (s : ∀ F D A H σ sl P R, Sta X.K F D A H σ sl → w sl P → (∀ J H' ts, Beh D H H' → ItOk X.K A H' J ts → P ts → R J H') → t σ H R) : GI X tg l w :=
  ⟨fun pins st σ H R I ⟨F, D, A, sl, P, S, hw, q⟩ => h.run pins st σ H R I (s F D A H σ sl P R S hw q)⟩
def wiSeq (w : WE) : WI := fun sl P => w sl fun x => ∃ t ts, x = .val t ∧ t.seq = some ts ∧ P ts
theorem gi_seq {tg l : Expr} {w : WE} (h : GE X l w) : GI X tg l (wiSeq w) := gi_of (pi_seq h) fun F D A H σ sl P R S hw q =>
  ⟨F, D, A, sl, _, S, hw, fun v H1 x b1 ok hx => by
    obtain ⟨t, ts, rfl, e, hp⟩ := hx
    have r : Rep X.K A H1 v t := ok
    cases t <;> simp only [T.seq] at e <;> cases e
    · obtain ⟨a, vs, rfl, h, _⟩ := (RepS.of r).tup
      exact ⟨a, rfl, .inr ⟨⟨vs, h⟩, q _ H1 _ b1 (.tup r) hp⟩⟩
    · obtain ⟨a, vs, rfl, h, _⟩ := (RepS.of r).lst
      exact ⟨a, rfl, .inl ⟨⟨vs, .inl (.inl h)⟩, q _ H1 _ b1 (.lst r) hp⟩⟩
    · obtain ⟨a, vs, rfl, h, _⟩ := (RepS.of r).scr
      exact ⟨a, rfl, .inl ⟨⟨vs, h⟩, q _ H1 _ b1 (.scr r) hp⟩⟩⟩
def upTo (lo : Int) (n : Nat) : List T := (List.range n).map fun i => .int (lo + (i : Nat))
def wiRng1 (a : WA) : WI := fun sl P => a sl fun xs => ∃ n : Int, xs = [.val (.int n)] ∧ -(2 ^ 62) ≤ n ∧ n < 2 ^ 62 ∧ P (upTo 0 n.toNat)
theorem gi_rng1 {tg a : Expr} {p pos : Pos} {w : WA} (hg : Gl X "range") (hm : X.mg "range" = none) (ha : GA X [a] w) (hs : starEach [a] X.env = [(false, eval a X.env)] := by rfl) : GI X tg (.Call (.Name "range" p) [a] [] pos) (wiRng1 w) := gi_of (pi_range1 hg hm ha hs) fun F D A H σ sl P R S hw q =>
  ⟨F, D, A, sl, _, S, hw, fun vs H1 xs b1 oks hx => by
    obtain ⟨n, rfl, h1, h2, hp⟩ := hx
    cases oks with
    | cons ok r =>
      cases r
      cases ok
      exact ⟨n, rfl, h1, h2, q _ H1 _ b1 .rng hp⟩⟩
def wiRng2 (a : WA) : WI := fun sl P => a sl fun xs => ∃ m n : Int, xs = [.val (.int m), .val (.int n)] ∧ (-(2 ^ 62) ≤ m ∧ m < 2 ^ 62 ∧ -(2 ^ 62) ≤ n ∧ n < 2 ^ 62) ∧ P (upTo m (n - m).toNat)
def downTo (hi : Int) (n : Nat) : List T := (List.range n).map fun i => .int (hi - (i : Nat))
/-- range(m, n, -1) -/
def wiRngD (a : WA) : WI := fun sl P => a sl fun xs => ∃ m n : Int, xs = [.val (.int m), .val (.int n), .val (.int (-1))] ∧ (-(2 ^ 62) ≤ m ∧ m < 2 ^ 62 ∧ -(2 ^ 62) ≤ n ∧ n < 2 ^ 62) ∧ P (downTo m (m - n).toNat)
def wiZip (a : WA) : WI := fun sl P => a sl fun xs => ∃ ts us, xs = [.val (.lst ts), .val (.tup us)] ∧ P (List.zipWith (fun x y => T.tup [x, y]) ts us)
/-- zip of two lists or of two tuples -/
def wiZipA (a : WA) : WI := fun sl P => a sl fun xs => ∃ ts us, (xs = [.val (.lst ts), .val (.lst us)] ∨ xs = [.val (.tup ts), .val (.tup us)]) ∧ P (List.zipWith (fun x y => T.tup [x, y]) ts us)
theorem gi_zipA {e e2 : Expr} {p pos tp : Pos} {es : List Expr} {kk : Nat} {w : WA} (hg : Gl X "zip") (hm : X.mg "zip" = none) (ha : GA X [e, e2] w) (hs : starEach [e, e2] X.env = (false, eval e X.env) :: starEach [e2] X.env := by rfl) (hpl : (backTo pos (starEach [e2] X.env)).any (·.1) = false := by rfl) :
    GI X (.Tuple es kk tp) (.Call (.Name "zip" p) [e, e2] [] pos) (wiZipA w) := gi_of (RZ.pi_zipA hg hm ha hs hpl) fun F D A H σ sl P R S hw q =>
  ⟨F, D, A, sl, _, S, hw, fun vs H1 xs b1 oks hx => by
    obtain ⟨ts, us, e, hp⟩ := hx
    rcases e with rfl | rfl
    · cases oks with
      | cons ok r => cases r with
        | cons ok2 r =>
          cases r
          have r1 : Rep X.K A H1 _ (.lst ts) := ok
          have r2 : Rep X.K A H1 _ (.lst us) := ok2
          obtain ⟨a, vs, rfl, h, _⟩ := (RepS.of r1).lst
          obtain ⟨b, ws, rfl, h2, _⟩ := (RepS.of r2).lst
          exact ⟨a, b, vs, ws, rfl, .inl ⟨.inl (.inl h), .inl (.inl h2), q _ H1 _ b1 (.zipL r1 r2) hp⟩⟩
    · cases oks with
      | cons ok r => cases r with
        | cons ok2 r =>
          cases r
          have r1 : Rep X.K A H1 _ (.tup ts) := ok
          have r2 : Rep X.K A H1 _ (.tup us) := ok2
          obtain ⟨a, vs, rfl, h, _⟩ := (RepS.of r1).tup
          obtain ⟨b, ws, rfl, h2, _⟩ := (RepS.of r2).tup
          exact ⟨a, b, vs, ws, rfl, .inr ⟨h, h2, q _ H1 _ b1 (.zipT r1 r2) hp⟩⟩⟩
/-- the signs of a text, one by one -/
def wiStr (w : WE) : WI := fun sl P => w sl fun x => ∃ z, x = .val (.str z) ∧ P (sgnT z)
theorem gi_str {tg l : Expr} {w : WE} (h : GE X l w) : GI X tg l (wiStr w) := gi_of (pi_str h) fun F D A H σ sl P R S hw q =>
  ⟨F, D, A, sl, _, S, hw, fun v H1 x b1 ok hx => by
    obtain ⟨z, rfl, hp⟩ := hx
    cases ok
    exact ⟨z, rfl, q _ H1 _ b1 .sgn hp⟩⟩
/-- enumerate of a list or a tuple -/
def iEnumA (K : PySem.W.Frag) (ta : TA) : TI := fun σ H R => ta σ H fun vs H1 => ∃ a, vs = [.ref a] ∧ ((∃ xs, SqL K H1 a xs) ∧ R (Ite K a) H1 ∨ (∃ xs, SqT K H1 a xs) ∧ R (En.ItT K a) H1)
def wiEnum (a : WA) : WI := fun sl P => a sl fun xs => ∃ t ts, xs = [.val t] ∧ (t = .lst ts ∨ t = .tup ts) ∧ P (enT 0 ts)
/-! the walk's turns -/
theorem zip_rep {A : Avoid} {H : Hp} : ∀ {vs : List V} {ts : List T}, RepAll K A H vs ts → ∀ p ∈ vs.zip ts, Rep K A H p.1 p.2
  | _, _, .nil, p, hp => nomatch hp
  | _, _, .cons q r, p, hp => by
    rw [List.zip_cons_cons] at hp
    rcases List.mem_cons.mp hp with e | e
    · rw [e]; exact q
    · exact zip_rep r p e
theorem rep_zip {A : Avoid} {H : Hp} : ∀ {vs : List V} {ts : List T}, vs.length = ts.length → (∀ p ∈ vs.zip ts, Rep K A H p.1 p.2) → RepAll K A H vs ts
  | [], [], _, _ => .nil
  | v :: vs, t :: ts, e, h => .cons (h (v, t) (by rw [List.zip_cons_cons]; exact List.mem_cons_self)) (rep_zip (by simpa using e) fun p hp => h p (by rw [List.zip_cons_cons]; exact List.mem_cons_of_mem _ hp))
theorem ItOk.held {A : Avoid} {H : Hp} {J : It} {ts : List T} (h : ItOk K A H J ts) : ∃ (G : List (V × T)) (L : List (Addr × Obj × List (Key × V))), (∀ p ∈ G, Rep K A H p.1 p.2) ∧ (∀ p ∈ L, p.1 ∉ A ∧ H p.1 = some (.frz p.2.1 (.dK p.2.2))) ∧ ∀ A' H', (∀ p ∈ G, Rep K A' H' p.1 p.2) → (∀ p ∈ L, p.1 ∉ A' ∧ H' p.1 = some (.frz p.2.1 (.dK p.2.2))) → ItOk K A' H' J ts := by
  cases h with
  | lst r => exact ⟨[(_, _)], [], fun p hp => by rw [List.mem_singleton.mp hp]; exact r, (fun p hp => by cases hp), fun A' H' h _ => .lst (h _ (List.mem_singleton.mpr rfl))⟩
  | scr r => exact ⟨[(_, _)], [], fun p hp => by rw [List.mem_singleton.mp hp]; exact r, (fun p hp => by cases hp), fun A' H' h _ => .scr (h _ (List.mem_singleton.mpr rfl))⟩
  | tup r => exact ⟨[(_, _)], [], fun p hp => by rw [List.mem_singleton.mp hp]; exact r, (fun p hp => by cases hp), fun A' H' h _ => .tup (h _ (List.mem_singleton.mpr rfl))⟩
  | rng => exact ⟨[], [], (fun p hp => by cases hp), (fun p hp => by cases hp), fun A' H' h _ => .rng⟩
  | rngD => exact ⟨[], [], (fun p hp => by cases hp), (fun p hp => by cases hp), fun A' H' h _ => .rngD⟩
  | zipM r r2 => exact ⟨[(_, _), (_, _)], [], fun p hp => by
      rcases List.mem_cons.mp hp with e | e
      · rw [e]; exact r
      · rw [List.mem_singleton.mp e]; exact r2, (fun p hp => by cases hp), fun A' H' h _ => .zipM (h _ List.mem_cons_self) (h _ (List.mem_cons_of_mem _ (List.mem_singleton.mpr rfl)))⟩
  | enL r => exact ⟨[(_, _)], [], fun p hp => by rw [List.mem_singleton.mp hp]; exact r, (fun p hp => by cases hp), fun A' H' h _ => .enL (h _ (List.mem_singleton.mpr rfl))⟩
  | enT r => exact ⟨[(_, _)], [], fun p hp => by rw [List.mem_singleton.mp hp]; exact r, (fun p hp => by cases hp), fun A' H' h _ => .enT (h _ (List.mem_singleton.mpr rfl))⟩
  | sgn => exact ⟨[], [], (fun p hp => by cases hp), (fun p hp => by cases hp), fun A' H' h _ => .sgn⟩
  | zipL r r2 => exact ⟨[(_, _), (_, _)], [], fun p hp => by
      rcases List.mem_cons.mp hp with e | e
      · rw [e]; exact r
      · rw [List.mem_singleton.mp e]; exact r2, (fun p hp => by cases hp), fun A' H' h _ => .zipL (h _ List.mem_cons_self) (h _ (List.mem_cons_of_mem _ (List.mem_singleton.mpr rfl)))⟩
  | zipT r r2 => exact ⟨[(_, _), (_, _)], [], fun p hp => by
      rcases List.mem_cons.mp hp with e | e
      · rw [e]; exact r
      · rw [List.mem_singleton.mp e]; exact r2, (fun p hp => by cases hp), fun A' H' h _ => .zipT (h _ List.mem_cons_self) (h _ (List.mem_cons_of_mem _ (List.mem_singleton.mpr rfl)))⟩
  | @itm d o ks vs us hA hd hl ra => exact ⟨vs.zip us, [(d, o, ks.zip vs)], zip_rep ra, fun p hp => by rw [List.mem_singleton.mp hp]; exact ⟨hA, hd⟩, fun A' H' h hL => .itm (hL _ (List.mem_singleton.mpr rfl)).1 (hL _ (List.mem_singleton.mpr rfl)).2 hl (rep_zip ra.length h)⟩
  | @vals d o ks vs us hA hd hl ra => exact ⟨vs.zip ts, [(d, o, ks.zip vs)], zip_rep ra, fun p hp => by rw [List.mem_singleton.mp hp]; exact ⟨hA, hd⟩, fun A' H' h hL => .vals (hL _ (List.mem_singleton.mpr rfl)).1 (hL _ (List.mem_singleton.mpr rfl)).2 hl (rep_zip ra.length h)⟩
  | @key d o ks vs hA hd hl => exact ⟨[], [(d, o, ks.zip vs)], (fun p hp => by cases hp), fun p hp => by rw [List.mem_singleton.mp hp]; exact ⟨hA, hd⟩, fun A' H' h hL => .key (hL _ (List.mem_singleton.mpr rfl)).1 (hL _ (List.mem_singleton.mpr rfl)).2 hl⟩
theorem ItOk.turn {A : Avoid} {H : Hp} {J : It} {ts : List T} (h : ItOk K A H J ts) (al : ∀ a ∈ A, H a ≠ none) {i : Nat} : (i < ts.length → J.go i H ∧ ∀ y H', J.yld i H y H' → Ext [] H H' ∧ ∃ t, ts[i]? = some t ∧ Rep K A H' y t) ∧ (ts.length ≤ i → J.stop i H) := by
  cases h with
  | @vals d o ks vs us hA hd hl ra =>
    have hlen : (ks.zip vs).length = ts.length := by rw [List.length_zip, hl, Nat.min_self, ra.length]
    refine ⟨fun hi => ?_, fun hi => ⟨hd, by rw [hlen]; exact hi⟩⟩
    obtain ⟨w, e1, rw'⟩ := ra.get (List.getElem?_eq_getElem hi)
    exact ⟨⟨hd, by rw [hlen]; exact hi⟩, fun y H' hy => ⟨by rw [hy.1]; exact Ext.refl H, _, List.getElem?_eq_getElem hi, by
      obtain ⟨e0, k, e⟩ := hy
      have e2 : vs[i]? = some y := (List.getElem?_zip_eq_some.mp e).2
      rw [e1] at e2
      cases e2
      rw [e0]
      exact rw'⟩⟩
  | lst r =>
    obtain ⟨a, vs, e, hl, ra⟩ := (RepS.of r).lst
    cases e
    refine ⟨fun hi => ?_, fun hi => ⟨vs, .inl (.inl hl), by rw [ra.length]; exact hi⟩⟩
    obtain ⟨w, e1, rw'⟩ := ra.get (List.getElem?_eq_getElem hi)
    exact ⟨⟨vs, w, .inl (.inl hl), e1⟩, fun y H' hy => ⟨by rw [hy.1]; exact Ext.refl H, _, List.getElem?_eq_getElem hi, by
      have := hy.2 vs (.inl (.inl hl))
      rw [e1] at this
      cases this
      rw [hy.1]
      exact rw'⟩⟩
  | scr r =>
    obtain ⟨a, vs, e, hl, ra⟩ := (RepS.of r).scr
    cases e
    refine ⟨fun hi => ?_, fun hi => ⟨vs, hl, by rw [ra.length]; exact hi⟩⟩
    obtain ⟨w, e1, rw'⟩ := ra.get (List.getElem?_eq_getElem hi)
    exact ⟨⟨vs, w, hl, e1⟩, fun y H' hy => ⟨by rw [hy.1]; exact Ext.refl H, _, List.getElem?_eq_getElem hi, by
      have := hy.2 vs hl
      rw [e1] at this
      cases this
      rw [hy.1]
      exact rw'⟩⟩
  | tup r =>
    obtain ⟨a, vs, e, hl, ra⟩ := (RepS.of r).tup
    cases e
    refine ⟨fun hi => ?_, fun hi => ⟨vs, hl, by rw [ra.length]; exact hi⟩⟩
    obtain ⟨w, e1, rw'⟩ := ra.get (List.getElem?_eq_getElem hi)
    exact ⟨⟨vs, w, hl, e1⟩, fun y H' hy => ⟨by rw [hy.1]; exact Ext.refl H, _, List.getElem?_eq_getElem hi, by
      have := hy.2 vs hl
      rw [e1] at this
      cases this
      rw [hy.1]
      exact rw'⟩⟩
  | @rng lo n =>
    refine ⟨fun hi => ?_, fun hi => ?_⟩
    · rw [List.length_map, List.length_range] at hi
      exact ⟨hi, fun y H' hy => ⟨by rw [hy.1]; exact Ext.refl H, .int (lo + (i : Nat)), by rw [List.getElem?_map, List.getElem?_range hi]; rfl, by rw [hy.2]; exact .int _⟩⟩
    · rw [List.length_map, List.length_range] at hi
      exact hi
  | @rngD lo n =>
    refine ⟨fun hi => ?_, fun hi => ?_⟩
    · rw [List.length_map, List.length_range] at hi
      exact ⟨hi, fun y H' hy => ⟨by rw [hy.1]; exact Ext.refl H, .int (lo - (i : Nat)), by rw [List.getElem?_map, List.getElem?_range hi]; rfl, by
        rw [hy.2, show lo + (i : Nat) * (-1 : Int) = lo - (i : Nat) by omega]
        exact .int _⟩⟩
    · rw [List.length_map, List.length_range] at hi
      exact hi
  | @zipM a b us ws r r2 =>
    obtain ⟨a', vs, e, hl, ra⟩ := (RepS.of r).lst
    cases e
    obtain ⟨b', xs, e, hl2, rb⟩ := (RepS.of r2).tup
    cases e
    rw [List.length_zipWith]
    refine ⟨fun hi => ?_, fun hi => ⟨vs, xs, .inl (.inl hl), hl2, by rw [ra.length, rb.length]; omega⟩⟩
    obtain ⟨v1, e1, r1⟩ := ra.get (List.getElem?_eq_getElem (show i < us.length by omega))
    obtain ⟨v2, e2, r2'⟩ := rb.get (List.getElem?_eq_getElem (show i < ws.length by omega))
    refine ⟨⟨vs, xs, v1, v2, .inl (.inl hl), hl2, e1, e2⟩, fun y H' hy => ?_⟩
    obtain ⟨t, x, y', rfl, hn, rfl, f1, f2⟩ := hy
    have g1 := f1 vs (.inl (.inl hl))
    have g2 := f2 xs hl2
    rw [e1] at g1
    rw [e2] at g2
    cases g1
    cases g2
    refine ⟨Ext.new hn, .tup [us[i], ws[i]], ?_, .tup (fresh_notin al hn) upd_same (.cons (r1.mono (Ext.new hn)) (.cons (r2'.mono (Ext.new hn)) .nil))⟩
    rw [List.getElem?_zipWith, List.getElem?_eq_getElem (show i < us.length by omega), List.getElem?_eq_getElem (show i < ws.length by omega)]
  | @enL a us r =>
    obtain ⟨a', vs, e, hl, ra⟩ := (RepS.of r).lst
    cases e
    rw [enT_length]
    refine ⟨fun hi => ?_, fun hi => ⟨vs, .inl (.inl hl), by rw [ra.length]; exact hi⟩⟩
    obtain ⟨v1, e1, r1⟩ := ra.get (List.getElem?_eq_getElem hi)
    refine ⟨⟨vs, v1, .inl (.inl hl), e1⟩, fun y H' hy => ?_⟩
    obtain ⟨t, x, rfl, hn, rfl, f1⟩ := hy
    have g1 := f1 vs (.inl (.inl hl))
    rw [e1] at g1
    cases g1
    refine ⟨Ext.new hn, .tup [.int ((i : Nat) : Int), us[i]], ?_, .tup (fresh_notin al hn) upd_same (.cons (.int _) (.cons (r1.mono (Ext.new hn)) .nil))⟩
    rw [enT_get, List.getElem?_eq_getElem hi, Nat.zero_add]
    rfl
  | @enT a us r =>
    obtain ⟨a', vs, e, hl, ra⟩ := (RepS.of r).tup
    cases e
    rw [enT_length]
    refine ⟨fun hi => ?_, fun hi => ⟨vs, hl, by rw [ra.length]; exact hi⟩⟩
    obtain ⟨v1, e1, r1⟩ := ra.get (List.getElem?_eq_getElem hi)
    refine ⟨⟨vs, v1, hl, e1⟩, fun y H' hy => ?_⟩
    obtain ⟨t, x, rfl, hn, rfl, f1⟩ := hy
    have g1 := f1 vs hl
    rw [e1] at g1
    cases g1
    refine ⟨Ext.new hn, .tup [.int ((i : Nat) : Int), us[i]], ?_, .tup (fresh_notin al hn) upd_same (.cons (.int _) (.cons (r1.mono (Ext.new hn)) .nil))⟩
    rw [enT_get, List.getElem?_eq_getElem hi, Nat.zero_add]
    rfl
  | @sgn x =>
    unfold sgnT
    rw [List.length_map, Array.length_toList]
    refine ⟨fun hi => ⟨hi, fun y H' hy => ⟨by rw [hy.1]; exact Ext.refl H, ?_⟩⟩, fun hi => hi⟩
    obtain ⟨rfl, c, ec, rfl⟩ := hy
    refine ⟨.str ⟨#[c]⟩, ?_, .str _⟩
    rw [List.getElem?_map, Array.getElem?_toList, ec]
    rfl
  | @zipL a b us ws r r2 =>
    obtain ⟨a', vs, e, hl, ra⟩ := (RepS.of r).lst
    cases e
    obtain ⟨b', xs, e, hl2, rb⟩ := (RepS.of r2).lst
    cases e
    rw [List.length_zipWith]
    refine ⟨fun hi => ?_, fun hi => ⟨vs, xs, .inl (.inl hl), .inl (.inl hl2), by rw [ra.length, rb.length]; omega⟩⟩
    obtain ⟨v1, e1, r1⟩ := ra.get (List.getElem?_eq_getElem (show i < us.length by omega))
    obtain ⟨v2, e2, r2'⟩ := rb.get (List.getElem?_eq_getElem (show i < ws.length by omega))
    refine ⟨⟨vs, xs, v1, v2, .inl (.inl hl), .inl (.inl hl2), e1, e2⟩, fun y H' hy => ?_⟩
    obtain ⟨t, x, y', rfl, hn, rfl, f1, f2⟩ := hy
    have g1 := f1 vs (.inl (.inl hl))
    have g2 := f2 xs (.inl (.inl hl2))
    rw [e1] at g1
    rw [e2] at g2
    cases g1
    cases g2
    refine ⟨Ext.new hn, .tup [us[i], ws[i]], ?_, .tup (fresh_notin al hn) upd_same (.cons (r1.mono (Ext.new hn)) (.cons (r2'.mono (Ext.new hn)) .nil))⟩
    rw [List.getElem?_zipWith, List.getElem?_eq_getElem (show i < us.length by omega), List.getElem?_eq_getElem (show i < ws.length by omega)]
  | @zipT a b us ws r r2 =>
    obtain ⟨a', vs, e, hl, ra⟩ := (RepS.of r).tup
    cases e
    obtain ⟨b', xs, e, hl2, rb⟩ := (RepS.of r2).tup
    cases e
    rw [List.length_zipWith]
    refine ⟨fun hi => ?_, fun hi => ⟨vs, xs, hl, hl2, by rw [ra.length, rb.length]; omega⟩⟩
    obtain ⟨v1, e1, r1⟩ := ra.get (List.getElem?_eq_getElem (show i < us.length by omega))
    obtain ⟨v2, e2, r2'⟩ := rb.get (List.getElem?_eq_getElem (show i < ws.length by omega))
    refine ⟨⟨vs, xs, v1, v2, hl, hl2, e1, e2⟩, fun y H' hy => ?_⟩
    obtain ⟨t, x, y', rfl, hn, rfl, f1, f2⟩ := hy
    have g1 := f1 vs hl
    have g2 := f2 xs hl2
    rw [e1] at g1
    rw [e2] at g2
    cases g1
    cases g2
    refine ⟨Ext.new hn, .tup [us[i], ws[i]], ?_, .tup (fresh_notin al hn) upd_same (.cons (r1.mono (Ext.new hn)) (.cons (r2'.mono (Ext.new hn)) .nil))⟩
    rw [List.getElem?_zipWith, List.getElem?_eq_getElem (show i < us.length by omega), List.getElem?_eq_getElem (show i < ws.length by omega)]

  | @itm d o ks vs us hA hd hl ra =>
    have hu := ra.length
    rw [List.length_zipWith]
    refine ⟨fun hi => ⟨⟨hd, by rw [List.length_zip]; omega⟩, fun y H' hy => ?_⟩, fun hi => ⟨hd, by rw [List.length_zip]; omega⟩⟩
    obtain ⟨p, k, v, e, rfl, hn, rfl⟩ := hy
    obtain ⟨w, e1, r1⟩ := ra.get (List.getElem?_eq_getElem (show i < us.length by omega))
    have ek : ks[i]? = some k ∧ vs[i]? = some v := by
      rw [List.getElem?_eq_getElem (by rw [List.length_zip]; omega), List.getElem_zip] at e
      have e := Option.some.inj e
      rw [Prod.mk.injEq] at e
      exact ⟨by rw [List.getElem?_eq_getElem (show i < ks.length by omega), e.1], by rw [List.getElem?_eq_getElem (show i < vs.length by omega), e.2]⟩
    rw [ek.2] at e1
    cases e1
    refine ⟨Ext.new hn, .tup [keyW k, us[i]], ?_, .tup (fresh_notin al hn) upd_same (.cons (keyW_rep k) (.cons (r1.mono (Ext.new hn)) .nil))⟩
    rw [List.getElem?_zipWith, ek.1, List.getElem?_eq_getElem (show i < us.length by omega)]
  | @key d o ks vs hA hd hl =>
    rw [List.length_map]
    refine ⟨fun hi => ⟨⟨hd, by rw [List.length_zip]; omega⟩, fun y H' hy => ?_⟩, fun hi => ⟨hd, by rw [List.length_zip]; omega⟩⟩
    obtain ⟨rfl, k, v, e, rfl⟩ := hy
    have ek : ks[i]? = some k := by
      rw [List.getElem?_eq_getElem (by rw [List.length_zip]; omega), List.getElem_zip] at e
      have e := Option.some.inj e
      rw [Prod.mk.injEq] at e
      rw [List.getElem?_eq_getElem (show i < ks.length by omega), e.1]
    exact ⟨Ext.refl _, keyW k, by rw [List.getElem?_map, ek]; rfl, keyW_rep k⟩
/-! ### 10. targets -/
inductive Tg where
  | name (i : Nat) | names (is : List Nat) | nest (gs : List (Nat ⊕ List Nat))
def gNames : List Nat → TGs
  | [] => gNil
  | i :: r => gCons (gName i) (gNames r)
def gNest (K : PySem.W.Frag) : List (Nat ⊕ List Nat) → TGs
  | [] => gNil
  | .inl i :: r => gCons (gName i) (gNest K r)
  | .inr is :: r => gCons (gTup K is.length (gNames is)) (gNest K r)
def Tg.g (K : PySem.W.Frag) : Tg → TG
  | .name i => gName i
  | .names is => gTup K is.length (gNames is)
  | .nest gs => gTup K gs.length (gNest K gs)
def setAll (sl : List Sl) : List Nat → List T → List Sl
  | i :: is, t :: ts => setAll (sl.set i (.val t)) is ts
  | _, _ => sl
def setN : List Sl → List (Nat ⊕ List Nat) → List T → Option (List Sl)
  | sl, [], [] => some sl
  | sl, .inl i :: gs, t :: ts => setN (sl.set i (.val t)) gs ts
  | sl, .inr is :: gs, .tup us :: ts => if us.length = is.length then setN (setAll sl is us) gs ts else none
  | _, _, _ => none
def Tg.st : Tg → T → List Sl → Option (List Sl)
  | .name i, t, sl => some (sl.set i (.val t))
  | .names is, .tup ts, sl => if ts.length = is.length then some (setAll sl is ts) else none
  | .nest gs, .tup ts, sl => setN sl gs ts
  | _, _, _ => none
def nestIs : List (Nat ⊕ List Nat) → List Nat
  | [] => []
  | .inl i :: r => i :: nestIs r
  | .inr is :: r => is ++ nestIs r
def Tg.is : Tg → List Nat
  | .name i => [i]
  | .names is => is
  | .nest gs => nestIs gs
theorem wipe_get_none {σ : L2.St} : ∀ {vs : List Nat} {i : Nat}, i ∈ vs → i < σ.length → (L2.wipe σ vs)[i]? = some none
  | [], _, h, _ => by cases h
  | v :: vs, i, h, hl => by
    unfold L2.wipe
    by_cases e : v = i
    · subst e
      rw [List.getElem?_set_self (by rw [L2.wipe_length]; exact hl)]
    · rw [List.getElem?_set_ne e]
      rcases List.mem_cons.mp h with z | z
      · exact absurd z.symm e
      · exact wipe_get_none z hl
theorem wipe_get_out {σ : L2.St} : ∀ {vs : List Nat} {i : Nat}, i ∉ vs → (L2.wipe σ vs)[i]? = σ[i]?
  | [], _, _ => rfl
  | v :: vs, i, h => by
    unfold L2.wipe
    rw [List.mem_cons, not_or] at h
    rw [List.getElem?_set_ne (fun z => h.1 z.symm)]
    exact wipe_get_out h.2
theorem wipe_eq {σ τ : L2.St} {vs : List Nat} (hl : σ.length = τ.length) (h : ∀ i, i ∉ vs → σ[i]? = τ[i]?) : L2.wipe σ vs = L2.wipe τ vs := by
  apply List.ext_getElem?
  intro i
  by_cases hi : i ∈ vs
  · by_cases hlt : i < σ.length
    · rw [wipe_get_none hi hlt, wipe_get_none hi (by omega)]
    · rw [List.getElem?_eq_none (by rw [L2.wipe_length]; omega), List.getElem?_eq_none (by rw [L2.wipe_length]; omega)]
  · rw [wipe_get_out hi, wipe_get_out hi]
    exact h i hi
/-- a slot of the target is set, the others stay -/
structure SetAt (is : List Nat) (σ σ' : L2.St) : Prop where
  len : σ'.length = σ.length
  out : ∀ i, i ∉ is → σ'[i]? = σ[i]?
theorem sg_names : ∀ {is : List Nat} {vs : List V} {ts : List T} {σ : L2.St} {sl : List Sl} {Q : L2.St → Hp → Prop}, Sta K F D A H σ sl → RepAll K A H vs ts → ts.length = is.length →
    (∀ σ', Sta K F D A H σ' (setAll sl is ts) → SetAt is σ σ' → Q σ' H) → gNames is vs σ H Q
  | [], _, _, σ, sl, Q, S, .nil, _, q => ⟨rfl, q σ S ⟨rfl, fun _ _ => rfl⟩⟩
  | i :: is, _, _, σ, sl, Q, S, .cons (v := v) (t := t) h r, hl, q => by
    refine ⟨v, _, rfl, ?_⟩
    refine sg_names (Sta.set (i := i) S (x := .val t) h (fun _ _ z => nomatch z)) r (by simpa using hl) fun σ' S' c => q σ' S' ⟨by rw [c.len, List.length_set], fun j hj => ?_⟩
    rw [List.mem_cons, not_or] at hj
    rw [c.out j hj.2, List.getElem?_set_ne (fun z => hj.1 z.symm)]
  | [], _, _, σ, sl, Q, S, .cons h r, hl, q => by cases hl
  | i :: is, _, _, σ, sl, Q, S, .nil, hl, q => by cases hl
theorem setN_len : ∀ {gs : List (Nat ⊕ List Nat)} {ts : List T} {sl sl' : List Sl}, setN sl gs ts = some sl' → ts.length = gs.length
  | [], [], _, _, _ => rfl
  | [], _ :: _, _, _, e => by simp [setN] at e
  | .inl i :: gs, [], _, _, e => by simp [setN] at e
  | .inr i :: gs, [], _, _, e => by simp [setN] at e
  | .inl i :: gs, t :: ts, _, _, e => by
    simp only [setN] at e
    rw [List.length_cons, List.length_cons, setN_len e]
  | .inr is :: gs, t :: ts, _, _, e => by
    cases t with
    | tup us =>
      simp only [setN] at e
      split at e
      · rw [List.length_cons, List.length_cons, setN_len e]
      · cases e
    | _ => simp [setN] at e
theorem SetAt.trans {is js : List Nat} {σ σ1 σ2 : L2.St} (a : SetAt is σ σ1) (b : SetAt js σ1 σ2) : SetAt (is ++ js) σ σ2 := ⟨by rw [b.len, a.len], fun i hi => by
  rw [List.mem_append, not_or] at hi
  rw [b.out i hi.2, a.out i hi.1]⟩
theorem sg_nest : ∀ {gs : List (Nat ⊕ List Nat)} {vs : List V} {ts : List T} {σ : L2.St} {sl sl' : List Sl} {Q : L2.St → Hp → Prop}, Sta K F D A H σ sl → RepAll K A H vs ts → setN sl gs ts = some sl' →
    (∀ σ', Sta K F D A H σ' sl' → SetAt (nestIs gs) σ σ' → Q σ' H) → gNest K gs vs σ H Q
  | [], _, _, σ, sl, sl', Q, S, .nil, e, q => by
    simp only [setN] at e
    cases e
    exact ⟨rfl, q σ S ⟨rfl, fun _ _ => rfl⟩⟩
  | [], _, _, σ, sl, sl', Q, S, .cons _ _, e, q => by simp [setN] at e
  | .inl i :: gs, _, _, σ, sl, sl', Q, S, .nil, e, q => by simp [setN] at e
  | .inr i :: gs, _, _, σ, sl, sl', Q, S, .nil, e, q => by simp [setN] at e
  | .inl i :: gs, _, _, σ, sl, sl', Q, S, .cons (v := v) (t := t) h r, e, q => by
    simp only [setN] at e
    refine ⟨v, _, rfl, ?_⟩
    refine sg_nest (Sta.set (i := i) S (x := .val t) h (fun _ _ z => nomatch z)) r e fun σ' S' c => q σ' S' ⟨by rw [c.len, List.length_set], fun j hj => ?_⟩
    have hj' : j ∉ i :: nestIs gs := hj
    rw [List.mem_cons, not_or] at hj'
    rw [c.out j hj'.2, List.getElem?_set_ne (fun z => hj'.1 z.symm)]
  | .inr is :: gs, _, _, σ, sl, sl', Q, S, .cons (v := v) (t := t) h r, e, q => by
    cases t with
    | tup us =>
      simp only [setN] at e
      split at e
      · rename_i hl
        obtain ⟨a, vs, rfl, h, ra⟩ := (RepS.of h).tup
        exact ⟨_, _, rfl, a, vs, rfl, h, by rw [ra.length]; exact hl, sg_names S ra hl fun σ1 S1 c1 => sg_nest S1 r e fun σ' S' c => q σ' S' (c1.trans c)⟩
      · cases e
    | _ => simp [setN] at e
theorem sg (tg : Tg) {t : T} {sl' : List Sl} {Q : L2.St → Hp → Prop} (S : Sta K F D A H σ sl) (r : Rep K A H v t) (e : tg.st t sl = some sl') (q : ∀ σ', Sta K F D A H σ' sl' → SetAt tg.is σ σ' → Q σ' H) : tg.g K v σ H Q := by
  cases tg with
  | name i =>
    cases e
    exact q _ (Sta.set S (x := .val t) r (fun _ _ z => nomatch z)) ⟨List.length_set, fun j hj => List.getElem?_set_ne (fun z => hj (by rw [z]; exact List.mem_singleton.mpr rfl))⟩
  | names is =>
    cases t with
    | tup ts =>
      simp only [Tg.st] at e
      split at e
      · rename_i hl
        cases e
        obtain ⟨a, vs, rfl, h, ra⟩ := (RepS.of r).tup
        exact ⟨a, vs, rfl, h, by rw [ra.length]; exact hl, sg_names S ra hl q⟩
      · cases e
    | _ => cases e
  | nest gs =>
    cases t with
    | tup ts =>
      simp only [Tg.st] at e
      obtain ⟨a, vs, rfl, h, ra⟩ := (RepS.of r).tup
      exact ⟨a, vs, rfl, h, by rw [ra.length]; exact setN_len e, sg_nest S ra e q⟩
    | _ => cases e
end
end Tr


set_option Elab.async false
set_option linter.all false
set_option maxRecDepth 100000
set_option maxHeartbeats 0
namespace Tr
open PySem PySem.Spec PyProof.Rows L2
variable [Tabl]
section
variable {X : Cx} {K : PySem.W.Frag}
/-! ### 11. comprehensions -/
def wColl (g : Tg) (wt : WT) (we : WE) (sl : List Sl) (P : List T → Prop) : List T → List T → Prop
  | [], acc => P acc
  | t :: r, acc => ∃ sl', g.st t sl = some sl' ∧ wt sl' fun b => if b = true then we sl' fun y => ∃ u, y = .val u ∧ wColl g wt we sl P r (acc ++ [u]) else wColl g wt we sl P r acc
def wLc (wi : WI) (g : Tg) (wt : WT) (we : WE) (vs : List Nat) : WL := fun sl P => wi sl fun ts => ts.length ≤ 100000 ∧ wColl g wt we (wipeS sl vs) P ts []
def wYes : WT := fun _ P => P true
theorem st_yes : ST K tYes wYes := fun F D A H σ sl P Q S hw q => q true H (Beh.refl S) hw
theorem lc_all {J : It} {n : Nat} {g : TG} {tt : TT} {te : TE} {vs : List Nat} {σ : L2.St} {H1 : Hp} {D : Addr} {Qd : Hp → Prop} (Pv : Nat → Hp → Prop) (h0 : Pv 0 (upd H1 D (.lst []))) (hgo : ∀ i H, i < n → Pv i H → J.go i H) (hst : ∀ H, Pv n H → J.stop n H)
    (hs : ∀ i x H H', i < n → Pv i H → J.yld i H x H' → g x (L2.wipe σ vs) H' fun σ2 H2 => L2.wipe σ2 vs = L2.wipe σ vs ∧ tt σ2 H2 fun b H3 =>
      if b = true then te σ2 H3 fun y H4 => ∃ acc, H4 D = some (.lst acc) ∧ acc.length < sizeLine ∧ Pv (i + 1) (upd H4 D (.lst (acc ++ [y]))) else Pv (i + 1) H3) (hd : ∀ H, Pv n H → Qd H) :
    ∃ W : Nat → Nat → Hp → Prop, (∃ m, W 0 m (upd H1 D (.lst []))) ∧ ∀ i m H, W i m H →
      (J.stop i H ∧ Qd H) ∨ (J.go i H ∧ ∃ Nx : Hp → Prop, (∀ H', Nx H' → ∃ m', m' < m ∧ W (i + 1) m' H') ∧ ∀ x H', J.yld i H x H' → g x (L2.wipe σ vs) H' fun σ2 H2 => L2.wipe σ2 vs = L2.wipe σ vs ∧ tt σ2 H2 fun b H3 =>
        if b = true then te σ2 H3 fun y H4 => ∃ acc, H4 D = some (.lst acc) ∧ acc.length < sizeLine ∧ Nx (upd H4 D (.lst (acc ++ [y]))) else Nx H3) := by
  refine ⟨fun i m H => m = n - i ∧ i ≤ n ∧ Pv i H, ⟨n, by simp, Nat.zero_le _, h0⟩, ?_⟩
  rintro i m H ⟨rfl, hi, p⟩
  by_cases hlt : i < n
  · exact .inr ⟨hgo i H hlt p, Pv (i + 1), fun H' p' => ⟨n - (i + 1), by omega, rfl, hlt, p'⟩, fun x H' y => hs i x H H' hlt p y⟩
  · have e : i = n := by omega
    subst e
    exact .inl ⟨hst H p, hd H p⟩
theorem lc_core {F : Fx} {D A : Avoid} {H1 : Hp} {σ : L2.St} {sl : List Sl} {J : It} {ts : List T} {P : List T → Prop} {Q : Hp → Prop} {g : Tg} {wt : WT} {tt : TT} {we : WE} {vx : List Nat} {p : Addr} (st : ST K tt wt) (hin : ∀ i ∈ g.is, i ∈ vx) (S1 : Sta K F D A H1 σ sl) (io : ItOk K A H1 J ts)
    (hlen : ts.length ≤ 100000) (hco : wColl g wt we (wipeS sl vx) P ts []) (hp : H1 p = none) (q : ∀ H' vs acc, Beh D H1 H' → p ∉ A → H' p = some (.lst vs) → RepAll K (p :: A) H' vs acc → P acc → Q H') :
    ∃ W : Nat → Nat → Hp → Prop, (∃ m, W 0 m (upd H1 p (.lst []))) ∧ ∀ i m H, W i m H →
      (J.stop i H ∧ Q H) ∨ (J.go i H ∧ ∃ Nx : Hp → Prop, (∀ H', Nx H' → ∃ m', m' < m ∧ W (i + 1) m' H') ∧ ∀ x H', J.yld i H x H' → g.g K x (L2.wipe σ vx) H' fun σ2 H2 => L2.wipe σ2 vx = L2.wipe σ vx ∧ tt σ2 H2 fun b H3 =>
        if b = true then eOf K we σ2 H3 fun y H4 => ∃ acc, H4 p = some (.lst acc) ∧ acc.length < sizeLine ∧ Nx (upd H4 p (.lst (acc ++ [y]))) else Nx H3) := by
  have hpA : p ∉ A := fresh_notin S1.alive hp
  obtain ⟨G, L, g1, g0, g2⟩ := io.held
  let F' : Fx := { F with G := G ++ F.G, L := L ++ F.L }
  have lkF : ∀ r ∈ F'.L, r.1 ∉ A ∧ H1 r.1 = some (.frz r.2.1 (.dK r.2.2)) := fun r hr => (List.mem_append.mp hr).elim (g0 r) (S1.lk r)
  have ghF : ∀ r ∈ F'.G, Rep K A H1 r.1 r.2 := fun r hr => by
    rcases List.mem_append.mp hr with z | z
    · exact g1 r z
    · exact S1.gh r z
  have SF : Sta K F' D A H1 σ sl := ⟨S1.dice, S1.dA, S1.sub, S1.alive, S1.base, S1.dbase, S1.dsub, S1.keep, S1.tabs, S1.ext, S1.slots, S1.dist, ghF, lkF⟩
  have SG0 : Sta K F' D (p :: A) (upd H1 p (.lst [])) (L2.wipe σ vx) (wipeS sl vx) := (SF.grow hp).wipe _
  have hpD : p ∉ D := fun z => hpA (S1.dA p z)
  have no0 : ∀ (j : Nat) (l' : Addr) (ts : OwnT), (wipeS sl vx)[j]? = some (Sl.ob l' ts) → l' ≠ p := fun j l' us e z => by
    obtain ⟨v, _, ok⟩ := (SF.wipe vx).get e (fun z => nomatch z)
    obtain ⟨_, hl, _⟩ := ok
    exact hpA (by rw [← z]; exact hl)
  refine lc_all (n := ts.length) (fun i H' => ∃ acc vs, Sta K F' D (p :: A) H' (L2.wipe σ vx) (wipeS sl vx) ∧ Beh D H1 H' ∧ H' p = some (.lst vs) ∧ RepAll K (p :: A) H' vs acc ∧ acc.length ≤ i ∧ wColl g wt we (wipeS sl vx) P (ts.drop i) acc)
    ⟨[], [], SG0, ⟨fun a o n e => by rw [upd_ne (ne_of_none e hp)]; exact e, fun _ _ => Keep.new hp⟩, upd_same, .nil, Nat.zero_le _, hco⟩ (fun i H' hlt hP => ?_) (fun H' hP => ?_) (fun i x H' H2 hlt hP hy => ?_) (fun H' hP => ?_)
  · obtain ⟨acc, vs, Sx, _⟩ := hP
    exact (((g2 (p :: A) H' (fun r hr => Sx.gh r (List.mem_append.mpr (.inl hr))) fun r hr => Sx.lk r (List.mem_append.mpr (.inl hr))).turn Sx.alive).1 hlt).1
  · obtain ⟨acc, vs, Sx, _⟩ := hP
    exact ((g2 (p :: A) H' (fun r hr => Sx.gh r (List.mem_append.mpr (.inl hr))) fun r hr => Sx.lk r (List.mem_append.mpr (.inl hr))).turn Sx.alive).2 (Nat.le_refl _)
  · obtain ⟨acc, vs, Sx, hk, hpv, ra, hal, hw'⟩ := hP
    obtain ⟨ex2, t, et, rt⟩ := (((g2 (p :: A) H' (fun r hr => Sx.gh r (List.mem_append.mpr (.inl hr))) fun r hr => Sx.lk r (List.mem_append.mpr (.inl hr))).turn Sx.alive).1 hlt).2 x H2 hy
    have bx := Beh.of_ext Sx ex2
    replace hk : Beh D H1 H2 := hk.trans bx
    replace hpv := bx.ext p _ hpD hpv
    replace ra := ra.mono (ext_da Sx.dA bx.ext)
    replace Sx := Sx.beh bx
    rw [List.drop_eq_getElem_cons hlt] at hw'
    have et' : ts[i] = t := by rw [List.getElem?_eq_getElem hlt] at et; exact Option.some.inj et
    rw [et'] at hw'
    obtain ⟨sl', e1, hw2⟩ := hw'
    refine sg g Sx rt e1 fun σ2 S2 c => ⟨?_, st F' D (p :: A) H2 σ2 sl' _ _ S2 hw2 fun b H3 b3 hx3 => ?_⟩
    · have h1 : L2.wipe σ2 vx = L2.wipe (L2.wipe σ vx) vx := wipe_eq c.len fun j hj => c.out j (fun z => hj (hin j z))
      have h2 : L2.wipe (L2.wipe σ vx) vx = L2.wipe σ vx := wipe_eq (L2.wipe_length _ _) fun j hj => wipe_get_out hj
      rw [h1, h2]
    · have S3 := S2.beh b3
      have hpv3 := b3.ext p _ hpD hpv
      have ra3 := ra.mono (ext_da S2.dA b3.ext)
      have S3' : Sta K F' D (p :: A) H3 (L2.wipe σ vx) (wipeS sl vx) := Sx.beh b3
      have hk3 : Beh D H1 H3 := hk.trans b3
      cases b with
      | false =>
        rw [if_neg Bool.false_ne_true] at hx3 ⊢
        exact ⟨acc, vs, S3', hk3, hpv3, ra3, by omega, hx3⟩
      | true =>
        rw [if_pos rfl] at hx3 ⊢
        refine ⟨F', D, p :: A, sl', _, S3, hx3, fun y H4 z b4 ok4 hz => ?_⟩
        obtain ⟨u, rfl, hz⟩ := hz
        have hpv4 := b4.ext p _ hpD hpv3
        have ra4 := ra3.mono (ext_da S3.dA b4.ext)
        have S4' := S3'.beh b4
        have hvl : vs.length = acc.length := ra.length
        have hpm : p ∈ p :: A := List.mem_cons_self
        refine ⟨vs, hpv4, Tr.sz_lt (by omega), acc ++ [u], vs ++ [y], S4'.write hpm (fun z => hpA (S1.sub p z)) hpD no0 (fun φ z => by rw [hpv4] at z; cases z), ⟨fun a o n e => ?_, fun d hd => ((hk3.trans b4).dice d hd).trans (Keep.upd (fun z => hpD (by rw [← z]; exact hd)) fun φ z => by rw [hpv4] at z; cases z)⟩, upd_same, (ra4.append (.cons ok4 .nil)).mono (Ext.mut hpm), by rw [List.length_append]; show acc.length + 1 ≤ i + 1; omega, hz⟩
        rw [upd_ne (ne_of_none e hp)]
        exact b4.ext a o n (hk3.ext a o n e)
  · obtain ⟨acc, vs, Sx, hk, hpv, ra, hal, hw'⟩ := hP
    rw [List.drop_length] at hw'
    exact q H' vs acc hk hpA hpv ra hw'

theorem sl_lc {wi : WI} {g : Tg} {wt : WT} {tt : TT} {we : WE} {vx : List Nat} (st : ST K tt wt) (hin : ∀ i ∈ g.is, i ∈ vx) : SL K (tLc (iOf K wi) (g.g K) tt (eOf K we) vx) (wLc wi g wt we vx) := fun F D A H σ sl P Q S hw q =>
  ⟨F, D, A, sl, _, S, hw, fun J H1 ts b1 io hx p hp => lc_core st hin (S.beh b1) io hx.1 hx.2 hp fun H' vs acc hk hpA hpv ra hP => q p H' vs acc (b1.trans hk) (fresh_back S.dice b1 hp) hpA hpv ra hP⟩
theorem gl_lc {elt tg iter : Expr} {ifs : List Expr} {scope : Scope} {own : List (Str × Nat)} {pos : Pos} {wi : WI} {g : Tg} {wt : WT} {tt : TT} {we : WE} (hc : X.calm = true) (hN : X.N.Nodup) (hi : GI X tg iter wi) (ok : BlkOk X.N X.env.scope scope own)
    (hg : ∀ (s : Shared) (H : Hp) (C : Addr) (cl : List (Str × Addr)) (fp : List Addr), PG (X.blk s H scope (compEnvC scope cl C X.env) fp) tg (g.g X.K)) (ht : ∀ (s : Shared) (H : Hp) (C : Addr) (cl : List (Str × Addr)) (fp : List Addr), PTs (X.blk s H scope (compEnvC scope cl C X.env) fp) ifs tt) (st : ST X.K tt wt)
    (he : ∀ (s : Shared) (H : Hp) (C : Addr) (cl : List (Str × Addr)) (fp : List Addr), PE (X.blk s H scope (compEnvC scope cl C X.env) fp) elt (eOf X.K we)) (hin : ∀ i ∈ g.is, i ∈ own.map (·.2)) (hs : ∀ x, foldedSetIterable iter X.env x = pure x) :
    GL X (.ListComp elt [⟨tg, iter, ifs, 0⟩] scope pos) (wLc wi g wt we (own.map (·.2))) := gl_of (pe_lc hc hN hi ok hg ht he hs) (sl_lc st hin)

/-! ### 12. statements -/
theorem gs_of {st : Stmt} {t : TS} {w : WS} (h : PS X st t) (s : ∀ E σ H, sOf X.K w E σ H → t E σ H) : GS X st w := ⟨fun pins sh σ H E I q => h.run pins sh σ H E I (s E σ H q)⟩
def wNext : WS := fun k sl => k.nx sl
def wSeq (a b : WS) : WS := fun k sl => a { k with nx := fun sl' => b k sl' } sl
theorem gss_nil : GSs X [] wNext := ⟨fun pins sh σ H E I ⟨F, D, A, sl, k, S, hw, q, _⟩ => pss_nil.run pins sh σ H E I (q D A H σ sl S hw)⟩
theorem gss_one {st : Stmt} {w : WS} (h : GS X st w) : GSs X [st] w := pss_one h
theorem gss_cons {st : Stmt} {rest : List Stmt} {a b : WS} (h : GS X st a) (h2 : GSs X rest b) : GSs X (st :: rest) (wSeq a b) := ⟨fun pins sh σ H E I ⟨F, D, A, sl, k, S, hw, q1, q2, q3, q4⟩ =>
  (pss_cons h h2).run pins sh σ H E I ⟨F, D, A, sl, { k with nx := fun sl' => b k sl' }, S, hw, fun D' A' H' σ' sl' S' hb => ⟨F, D', A', sl', k, S', hb, q1, q2, q3, q4⟩, q2, q3, q4⟩⟩
def storable : Sl → Bool
  | .val _ => true
  | .dice => true
  | _ => false
/-- x = e -/
def wAsg (e : WE) (i : Nat) : WS := fun k sl => e sl fun x => storable x = true ∧ k.nx (sl.set i x)
theorem storable_own {x : Sl} (h : storable x = true) : ∀ l ts, x ≠ .ob l ts := fun l ts z => by subst z; cases h
theorem gs_asg (i : Nat) {x : Str} {e : Expr} {w : WE} {p pos : Pos} (he : GE X e w) (hN : X.N.Nodup) (hi : X.N[i]? = some x := by rfl) (hx : Loc X.env.scope x := by first | exact Or.inl rfl | exact Or.inr rfl)
    (hf : X.fn x = true ∨ X.env.scope.names.lookup x = some .local := by first | exact .inl rfl | exact .inr rfl)
    (hs : swapsWithSole [.Name x p] e pos.line X.env = pure false := by rfl) (hw : swappedStores [.Name x p] e X.env = pure none := by rfl) (h1 : (assignEach [.Name x p] X.env).map (·.2) = [assign (.Name x p) X.env] := by rfl) :
    GS X (.Assign [.Name x p] e pos) (wAsg w i) := gs_of (ps_asg he (pg_name hN hi hx hf) hs hw h1) fun E σ H ⟨F, D, A, sl, k, S, hw, q1, _⟩ =>
  ⟨F, D, A, sl, _, S, hw, fun v H1 x b1 ok hx => q1 _ _ _ _ _ ((S.beh b1).set ok (storable_own hx.1)) hx.2⟩
/-- x = a new list that is changed later -/
def wOwn (e : WL) (i : Nat) : WS := fun k sl => e sl fun ts => ∀ l, k.nx (sl.set i (.own l ts))
theorem sta_ob {F : Fx} {D A : Avoid} {H H1 : Hp} {σ : L2.St} {sl : List Sl} {i : Nat} {p : Addr} {ow : OwnT} (S : Sta K F D A H σ sl) (b : Beh D H H1) (hp : H p = none) (hA : p ∉ A) (r : OwnAt K (p :: A) H1 p ow) :
    Sta K F D (p :: A) H1 (σ.set i (some (.ref p))) (sl.set i (.ob p ow)) := by
  obtain ⟨hu, hv⟩ := r.alive
  have S1 := S.beh b
  have hpD : p ∉ D := fun z => hA (S.dA p z)
  have hne : ∀ a o, H a = some o → a ≠ p := fun a o e z => by rw [z, hp] at e; cases e
  have S2 : Sta K F D (p :: A) H1 σ sl := by
    refine ⟨S1.dice, fun d hd => List.mem_cons_of_mem _ (S1.dA d hd), fun a ha => List.mem_cons_of_mem _ (S1.sub a ha), fun a ha => ?_, fun a ha => ?_, S1.dbase, S1.dsub, S1.keep, S1.tabs, S1.ext, ?_, S1.dist, fun q hq => ?_, fun q hq => ⟨fun z => (List.mem_cons.mp z).elim (fun z => hne q.1 _ (S.lk q hq).2 z) (S.lk q hq).1, (S1.lk q hq).2⟩⟩
    · rcases List.mem_cons.mp ha with z | z
      · subst z; rw [hv]; exact fun z => nomatch z
      · exact S1.alive a z
    · rcases List.mem_cons.mp ha with z | z
      · subst z; exact .inr (S.fresh0 hp)
      · exact S1.base a z
    · refine Paired.imp (fun o x q => ?_) S.slots
      rcases q with q | ⟨v, q1, q2⟩
      · exact .inl q
      · refine .inr ⟨v, q1, ?_⟩
        cases x with
        | any => trivial
        | val t => exact Rep.to (fun a o n e => ⟨fun z => by
            rcases List.mem_cons.mp z with z | z
            · exact hne a o e z
            · exact n z, b.ext a o (fun z => n (S.dA a z)) e⟩) q2
        | dice =>
          obtain ⟨d, h1, h2, h3⟩ := q2
          exact ⟨d, h1, h2, (b.dice d h2).1 h3⟩
        | ob l us =>
          obtain ⟨h1, h2, h3, h4, h5⟩ := q2
          refine ⟨h1, List.mem_cons_of_mem _ h2, h3, h4, h5.map (fun u q => b.ext l _ h4 q) fun _ _ h6 => h6.to fun a o n e => ⟨fun z => by
            rcases List.mem_cons.mp z with z | z
            · exact hne a o e z
            · exact n z, b.ext a o (fun z => n (S.dA a z)) e⟩⟩
    · exact Rep.to (fun a o n e => ⟨fun z => by
            rcases List.mem_cons.mp z with z | z
            · exact hne a o e z
            · exact n z, b.ext a o (fun z => n (S.dA a z)) e⟩) (S.gh q hq)
  have no : ∀ (j : Nat) (l' : Addr) (ts' : OwnT), sl[j]? = some (Sl.ob l' ts') → l' ≠ p := fun j l' us e z => by
    obtain ⟨v, _, ok⟩ := S.get e (fun z => nomatch z)
    obtain ⟨_, hl, _⟩ := ok
    exact hA (by rw [← z]; exact hl)
  have S3 := S2.set (i := i) (v := .ref p) (x := .any) trivial (fun _ _ z => nomatch z)
  have S4 := S3.putO (i := i) (l := p) (o := ow) (fun o e => ?_) List.mem_cons_self (fun z => hA (S.sub p z)) hpD r (fun j l' ts' hj e => ?_)
  · rw [List.set_set] at S4
    exact S4
  · by_cases hl : i < σ.length
    · rw [List.getElem?_set_self hl] at e
      exact (Option.some.inj e).symm
    · rw [List.getElem?_eq_none (by rw [List.length_set]; omega)] at e
      cases e
  · rcases set_own e with ⟨_, z⟩ | ⟨_, z⟩
    · cases z
    · exact no j l' ts' z
theorem sta_own {F : Fx} {D A : Avoid} {H H1 : Hp} {σ : L2.St} {sl : List Sl} {i : Nat} {p : Addr} {vs : List V} {ts : List T} (S : Sta K F D A H σ sl) (b : Beh D H H1) (hp : H p = none) (hA : p ∉ A) (hv : H1 p = some (.lst vs)) (r : RepAll K (p :: A) H1 vs ts) :
    Sta K F D (p :: A) H1 (σ.set i (some (.ref p))) (sl.set i (.own p ts)) := sta_ob (ow := .lst ts) S b hp hA ⟨vs, hv, r⟩
theorem gs_own (i : Nat) {x : Str} {e : Expr} {w : WL} {p pos : Pos} (he : GL X e w) (hN : X.N.Nodup) (hi : X.N[i]? = some x := by rfl) (hx : Loc X.env.scope x := by first | exact Or.inl rfl | exact Or.inr rfl)
    (hf : X.fn x = true ∨ X.env.scope.names.lookup x = some .local := by first | exact .inl rfl | exact .inr rfl)
    (hs : swapsWithSole [.Name x p] e pos.line X.env = pure false := by rfl) (hw : swappedStores [.Name x p] e X.env = pure none := by rfl) (h1 : (assignEach [.Name x p] X.env).map (·.2) = [assign (.Name x p) X.env] := by rfl) :
    GS X (.Assign [.Name x p] e pos) (wOwn w i) := gs_of (ps_asg he (pg_name hN hi hx hf) hs hw h1) fun E σ H ⟨F, D, A, sl, k, S, hw, q1, _⟩ =>
  ⟨F, D, A, sl, _, S, hw, fun l H1 vs ts b1 hp hA hv r hx => q1 _ _ _ _ _ (sta_own S b1 hp hA hv r) (hx l)⟩
def wPar (i j : Nat) (a : WA) : WS := fun k sl => a sl fun xs => ∃ x y, xs = [x, y] ∧ storable x = true ∧ storable y = true ∧ k.nx ((sl.set i x).set j y)
/-- x.append(e), x a list of one's own -/
def wApp (i : Nat) (e : WE) : WS := fun k sl => ∃ l ts, nth sl i = .own l ts ∧ ts.length < 1000000 ∧ e sl fun x => ∃ t, x = .val t ∧ k.nx (sl.set i (.own l (ts ++ [t])))
theorem nth_own {sl : List Sl} {i : Nat} {l : Addr} {ts : List T} (h : nth sl i = .own l ts) : sl[i]? = some (.own l ts) := by
  unfold nth at h
  cases e : sl[i]? with
  | none => rw [e] at h; cases h
  | some x => rw [e] at h; exact congrArg some h
theorem st_app {i : Nat} {w : WE} {E : Ends} {σ : L2.St} {H : Hp} : sOf K (wApp i w) E σ H → tDrop (tBM K "list" rAppend (tVar i) (tCons (eOf K w) tNil)) E σ H := fun ⟨F, D, A, sl, k, S, hw, q1, _⟩ => by
  obtain ⟨l, ts, hn, hz, hw⟩ := hw
  obtain ⟨u, hv, ok⟩ := S.get (nth_own hn) (fun z => nomatch z)
  obtain ⟨e, h1, h2, h3, vs, hl, h5⟩ := ok
  cases e
  refine ⟨.ref l, hv, .inl ⟨rfl, vs, .inl (.inl hl)⟩, F, D, A, sl, _, S, hw, fun v H1 x b1 ok hx => ?_⟩
  obtain ⟨t, rfl, hp⟩ := hx
  have S1 := S.beh b1
  have h4 := b1.ext l _ h3 hl
  have h6 := h5.mono (ext_da S.dA b1.ext)
  have hlen : vs.length = ts.length := h5.length
  exact ⟨l, vs, v, rfl, rfl, h4, Tr.sz_lt (by omega), q1 _ _ _ _ _ (S1.grow1 (nth_own hn) h4 (h6.append (.cons ok .nil))) hp⟩
theorem gs_app (i : Nat) {x : Str} {e : Expr} {w : WE} {p pos cpos apos : Pos} (he : GE X e w) (hN : X.N[i]? = some x := by rfl) (hv : Vis X.env.scope x := by first | exact Or.inl rfl | exact Or.inr (Or.inl rfl) | exact Or.inr (Or.inr rfl)) (hd : (x == ("__debug__" : Str)) = false := by decide)
    (hcd : (x == ("__classdict__" : Str)) = false := by decide) (hst : starEach (e :: []) X.env = (false, eval e X.env) :: starEach [] X.env := by rfl)
    (hbase : attributeBase (.Name x p) "append" X.env (eval (.Name x p) X.env) = eval (.Name x p) X.env := by rfl)
    (hfew : ((backTo cpos (starEach (e :: []) X.env)).all (fun x => !x.1) && (backToKw cpos (keywordEach [] X.env)).all (fun x => x.1.isSome)
      && decide ((e :: ([] : List Expr)).length + ([] : List Keyword).length + (if ([] : List Keyword).isEmpty then 0 else 1) < 30)) = true := by rfl)
    (hline : (apos.endLine == cpos.line) = true := by rfl) (hs : swapsWith (.Call (.Attribute (.Name x p) "append" apos) [e] [] cpos) none pos.line X.env = pure false := by rfl) :
    GS X (.Expr (.Call (.Attribute (.Name x p) "append" apos) [e] [] cpos) pos) (wApp i w) :=
  gs_of (ps_expr (pe_bm PySem.F.plainAttrs_list PySem.F.slot_list_append PySem.F.type_list_append mt_append (pe_var hN hv hd hcd) (pa_cons he pa_nil hst) (hbase := hbase) (hfew := hfew) (hline := hline) (hs := hst)) hs) fun E σ H h => st_app h
/-- x, a list of one's own, is changed no more -/
def wFrz (i : Nat) (w : WS) : WS := fun k sl => ∃ l ts, nth sl i = .own l ts ∧ w k (sl.set i (.val (.lst ts)))
theorem Sta.freeze {F : Fx} {D A : Avoid} {H : Hp} {σ : L2.St} {sl : List Sl} {i : Nat} {l : Addr} {ts : OwnT} (S : Sta K F D A H σ sl) (hi : sl[i]? = some (.ob l ts)) : Sta K F D (A.filter fun a => decide (a ≠ l)) H σ (sl.set i (.val ts.tree)) := by
  obtain ⟨u, hv, ok⟩ := S.get hi (fun z => nomatch z)
  obtain ⟨e, h1, h2, h3, h5⟩ := ok
  cases e
  have mem : ∀ a, a ∈ A.filter (fun a => decide (a ≠ l)) ↔ a ∈ A ∧ a ≠ l := fun a => by rw [List.mem_filter, decide_eq_true_eq]
  have sub : ∀ a, a ∈ A.filter (fun a => decide (a ≠ l)) → a ∈ A := fun a h => ((mem a).mp h).1
  refine ⟨S.dice, fun d hd => (mem d).mpr ⟨S.dA d hd, fun z => h3 (by rw [← z]; exact hd)⟩, fun a ha => (mem a).mpr ⟨S.sub a ha, fun z => h2 (by rw [← z]; exact ha)⟩, fun a ha => S.alive a (sub a ha), fun a ha => S.base a (sub a ha), S.dbase, S.dsub, S.keep, S.tabs, S.ext, ?_, S.dist.set (fun _ _ z => nomatch z), fun q hq => (S.gh q hq).sub fun a ha => sub a ha, fun q hq => ⟨fun z => (S.lk q hq).1 (sub _ z), (S.lk q hq).2⟩⟩
  have h0 : Slots K D F.A0 (A.filter fun a => decide (a ≠ l)) H σ (sl.set i .any) := by
    have all : ∀ (τ : L2.St) (ss : List Sl), Slots K D F.A0 A H τ ss → (∀ (j : Nat) (l' : Addr) (us : OwnT), ss[j]? = some (Sl.ob l' us) → l' ≠ l) → Slots K D F.A0 (A.filter fun a => decide (a ≠ l)) H τ ss := by
      intro τ ss r
      induction r with
      | nil => exact fun _ => .nil
      | @cons a b as bs q r ih =>
        intro no
        refine .cons ?_ (ih fun j l' ts e => no (j + 1) l' ts (by simpa using e))
        rcases q with q | ⟨v, q1, q2⟩
        · exact .inl q
        · refine .inr ⟨v, q1, ?_⟩
          cases b with
          | any => trivial
          | val t => exact Rep.sub (fun a ha => sub a ha) q2
          | dice => exact q2
          | ob l' ts =>
            obtain ⟨g1, g2, g3, g4, g5⟩ := q2
            exact ⟨g1, (mem l').mpr ⟨g2, no 0 l' ts rfl⟩, g3, g4, g5.map (fun u q => q) fun _ _ g6 => g6.sub fun a ha => sub a ha⟩
    refine all σ _ (S.forget i).slots fun j l' us e => ?_
    rcases set_own e with ⟨_, z⟩ | ⟨n, z⟩
    · cases z
    · exact S.dist j i l' l us ts z hi (fun z => n z.symm)
  have h6 := paired_set_right (y := Sl.val ts.tree) i h0 fun o e => .inr ⟨.ref l, by rw [hv] at e; exact (Option.some.inj e).symm, h5.rep (fun z => ((mem l).mp z).2 rfl) fun _ _ r => r.sub fun a ha => sub a ha⟩
  rw [List.set_set] at h6
  exact h6
theorem gss_frz (i : Nat) {sts : List Stmt} {w : WS} (h : GSs X sts w) : GSs X sts (wFrz i w) := ⟨fun pins sh σ H E I ⟨F, D, A, sl, k, S, hw, q1, q2, q3, q4⟩ => by
  obtain ⟨l, ts, hn, hw⟩ := hw
  exact h.run pins sh σ H E I ⟨F, D, _, _, k, S.freeze (nth_own hn), hw, q1, q2, q3, q4⟩⟩
/-! control -/
def wIf (c : WT) (a b : WS) : WS := fun k sl => c sl fun v => if v = true then a k sl else b k sl
theorem gs_if {c : Expr} {a b : List Stmt} {pos : Pos} {w : WT} {wa wb : WS} (hc : GT X c w) (ha : GSs X a wa) (hb : GSs X b wb) : GS X (.If c a b pos) (wIf w wa wb) := gs_of (ps_if hc ha hb) fun E σ H ⟨F, D, A, sl, k, S, hw, q⟩ =>
  ⟨F, D, A, sl, _, S, hw, fun v H1 b1 hx => by
    cases v with
    | true => exact ⟨F, D, A, sl, k, S.beh b1, hx, q⟩
    | false => exact ⟨F, D, A, sl, k, S.beh b1, hx, q⟩⟩
def wRet (e : WE) : WS := fun k sl => e sl k.rt
theorem gs_ret {e : Expr} {pos : Pos} {w : WE} (h : GE X e w) : GS X (.Return (some e) pos) (wRet w) := gs_of (ps_ret h) fun E σ H ⟨F, D, A, sl, k, S, hw, _, _, _, q4⟩ => ⟨F, D, A, sl, _, S, hw, fun v H1 x b1 ok hx => q4 _ _ _ _ _ _ _ (S.beh b1) ok hx⟩
def wRetN : WS := fun k _ => k.rt (.val .non)
def wNever : WS := fun _ _ => False
theorem gs_never {st : Stmt} : GS X st wNever := ⟨fun pins sh σ H E I ⟨F, D, A, sl, k, S, hw, _⟩ => hw.elim⟩
def wBrk : WS := fun k sl => k.bk sl
def wCnt : WS := fun k sl => k.ct sl
def wDrop (e : WE) : WS := fun k sl => e sl fun _ => k.nx sl
theorem gs_expr {e : Expr} {pos : Pos} {w : WE} (he : GE X e w) (hs : swapsWith e none pos.line X.env = pure false := by rfl) : GS X (.Expr e pos) (wDrop w) := gs_of (ps_expr he hs) fun E σ H ⟨F, D, A, sl, k, S, hw, q1, _⟩ => ⟨F, D, A, sl, _, S, hw, fun v H1 x b1 ok hx => q1 _ _ _ _ _ (S.beh b1) hx⟩
/-- a, b = e (a tuple) -/
def wAsgT (e : WE) (is : List Nat) : WS := fun k sl => e sl fun x => ∃ t sl', x = .val t ∧ (Tg.names is).st t sl = some sl' ∧ k.nx sl'
theorem gs_asgT (is : List Nat) {tg e : Expr} {w : WE} {pos : Pos} (he : GE X e w) (hg : PG X tg ((Tg.names is).g X.K)) (hs : swapsWithSole [tg] e pos.line X.env = pure false := by rfl) (hw : swappedStores [tg] e X.env = pure none := by rfl)
    (h1 : (assignEach [tg] X.env).map (·.2) = [assign tg X.env] := by rfl) : GS X (.Assign [tg] e pos) (wAsgT w is) := gs_of (ps_asg he hg hs hw h1) fun E σ H ⟨F, D, A, sl, k, S, hw, q1, _⟩ => ⟨F, D, A, sl, _, S, hw, fun v H1 x b1 ok hx => by
  obtain ⟨t, sl', rfl, e, hp⟩ := hx
  exact sg (Tg.names is) (S.beh b1) ok e fun σ' S' _ => q1 _ _ _ _ _ S' hp⟩
/-- x op= e, whole numbers -/
def wAug (f : Int → Int → Int) (i : Nat) (e : WE) : WS := fun k sl => ∃ a, nth sl i = .val (.int a) ∧ e sl fun x => ∃ b, x = .val (.int b) ∧ k.nx (sl.set i (.val (.int (f a b))))
theorem nth_val {sl : List Sl} {i : Nat} {x : Sl} (h : nth sl i = x) (hx : x ≠ .any) : sl[i]? = some x := by
  unfold nth at h
  cases e : sl[i]? with
  | none => rw [e] at h; exact absurd h.symm hx
  | some y => rw [e] at h; exact congrArg some h
theorem gs_aug (i : Nat) {f : Int → Int → Int} {x : Str} {e : Expr} {w : WE} {op : Operator} {p pos : Pos} (he : GE X e w) (ho : PIp X op (ipI f)) (hN : X.N.Nodup) (hi : X.N[i]? = some x := by rfl) (hx : Loc X.env.scope x := by first | exact Or.inl rfl | exact Or.inr rfl)
    (hf : X.fn x = true ∨ X.env.scope.names.lookup x = some .local := by first | exact .inl rfl | exact .inr rfl) : GS X (.AugAssign (.Name x p) op e pos) (wAug f i w) := gs_of (ps_aug hN hi hx he ho hf) fun E σ H ⟨F, D, A, sl, k, S, hw, q1, _⟩ => by
  obtain ⟨a, hn, hw⟩ := hw
  obtain ⟨u, hv, ok⟩ := S.get (nth_val hn (fun z => nomatch z)) (fun z => nomatch z)
  cases ok
  refine ⟨.int a, hv, F, D, A, sl, _, S, hw, fun v H1 x b1 ok hx => ?_⟩
  obtain ⟨b, rfl, hp⟩ := hx
  cases ok
  exact ⟨a, b, rfl, rfl, q1 _ _ _ _ _ ((S.beh b1).set (x := .val (.int (f a b))) (Rep.int _) (fun _ _ z => nomatch z)) hp⟩
/-! loops -/
def wForL (g : Tg) (b : WS) (k : Ks) : List T → List Sl → Prop
  | [], sl => k.nx sl
  | t :: r, sl => ∃ sl', g.st t sl = some sl' ∧ b { nx := fun s => wForL g b k r s, ct := fun s => wForL g b k r s, bk := k.nx, rt := k.rt } sl'
def wFor (wi : WI) (g : Tg) (b : WS) : WS := fun k sl => wi sl fun ts => wForL g b k ts sl
theorem for_core {F : Fx} {D A : Avoid} {H1 : Hp} {σ : L2.St} {sl : List Sl} {J : It} {ts : List T} {k : Ks} {E : Ends} {g : Tg} {b : WS} (S1 : Sta K F D A H1 σ sl) (io : ItOk K A H1 J ts) (hx : wForL g b k ts sl)
    (q1 : ∀ D' A' H' σ' sl', Sta K F D' A' H' σ' sl' → k.nx sl' → E.nx σ' H') (q4 : ∀ D' A' H' σ' sl' v x, Sta K F D' A' H' σ' sl' → SlOk K D' F.A0 A' H' v x → k.rt x → E.rt v H') :
    ∃ W : Nat → Nat → L2.St → Hp → Prop, (∃ m, W 0 m σ H1) ∧ ∀ i m σ H, W i m σ H →
      (J.stop i H ∧ E.nx σ H) ∨ (J.go i H ∧ ∃ N : L2.St → Hp → Prop, (∀ σ' H', N σ' H' → ∃ m', m' < m ∧ W (i + 1) m' σ' H') ∧ ∀ x H', J.yld i H x H' → g.g K x σ H' fun σ2 H2 => sOf K b { E with nx := N, ct := N, bk := E.nx } σ2 H2) := by
  obtain ⟨G, L, g1, g0, g2⟩ := io.held
  let F' : Fx := { F with G := G ++ F.G, L := L ++ F.L }
  have lkF : ∀ r ∈ F'.L, r.1 ∉ A ∧ H1 r.1 = some (.frz r.2.1 (.dK r.2.2)) := fun r hr => (List.mem_append.mp hr).elim (g0 r) (S1.lk r)
  have ghF : ∀ r ∈ F'.G, Rep K A H1 r.1 r.2 := fun r hr => by
    rcases List.mem_append.mp hr with z | z
    · exact g1 r z
    · exact S1.gh r z
  have SF : Sta K F' D A H1 σ sl := ⟨S1.dice, S1.dA, S1.sub, S1.alive, S1.base, S1.dbase, S1.dsub, S1.keep, S1.tabs, S1.ext, S1.slots, S1.dist, ghF, lkF⟩
  have back : ∀ {D' A' H' σ' sl'}, Sta K F' D' A' H' σ' sl' → Sta K F D' A' H' σ' sl' := fun S' => ⟨S'.dice, S'.dA, S'.sub, S'.alive, S'.base, S'.dbase, S'.dsub, S'.keep, S'.tabs, S'.ext, S'.slots, S'.dist, fun r hr => S'.gh r (List.mem_append.mpr (.inr hr)), fun r hr => S'.lk r (List.mem_append.mpr (.inr hr))⟩
  refine ⟨fun i m σ' H' => m = ts.length - i ∧ i ≤ ts.length ∧ ∃ D' A' sl', Sta K F' D' A' H' σ' sl' ∧ wForL g b k (ts.drop i) sl', ⟨ts.length, by simp, Nat.zero_le _, D, A, sl, SF, hx⟩, ?_⟩
  rintro i m σ' H' ⟨rfl, hi, D', A', sl', S', hw'⟩
  have io' := g2 A' H' (fun r hr => S'.gh r (List.mem_append.mpr (.inl hr))) fun r hr => S'.lk r (List.mem_append.mpr (.inl hr))
  by_cases hlt : i < ts.length
  · have tr := (io'.turn S'.alive).1 hlt
    refine .inr ⟨tr.1, fun σ2 H2 => ∃ D2 A2 sl2, Sta K F' D2 A2 H2 σ2 sl2 ∧ wForL g b k (ts.drop (i + 1)) sl2, fun σ2 H2 ⟨D2, A2, sl2, S2, h2⟩ => ⟨ts.length - (i + 1), by omega, rfl, hlt, D2, A2, sl2, S2, h2⟩, fun y H2 hy => ?_⟩
    obtain ⟨ex2, t, et, rt⟩ := tr.2 y H2 hy
    have bx := Beh.of_ext S' ex2
    replace S' := S'.beh bx
    rw [List.drop_eq_getElem_cons hlt] at hw'
    have et' : ts[i] = t := by rw [List.getElem?_eq_getElem hlt] at et; exact Option.some.inj et
    rw [et'] at hw'
    obtain ⟨sl2, e1, hb2⟩ := hw'
    refine sg g S' rt e1 fun σ2 S2 _ => ?_
    exact ⟨F', D', A', sl2, _, S2, hb2, fun D3 A3 H3 σ3 sl3 S3 h3 => ⟨D3, A3, sl3, S3, h3⟩, fun D3 A3 H3 σ3 sl3 S3 h3 => q1 _ _ _ _ _ (back S3) h3, fun D3 A3 H3 σ3 sl3 S3 h3 => ⟨D3, A3, sl3, S3, h3⟩, fun D3 A3 H3 σ3 sl3 v x S3 ok h3 => q4 _ _ _ _ _ _ _ (back S3) ok h3⟩
  · have e : i = ts.length := by omega
    subst e
    rw [List.drop_length] at hw'
    exact .inl ⟨(io'.turn S'.alive).2 (Nat.le_refl _), q1 _ _ _ _ _ (back S') hw'⟩
theorem gs_for {tg iter : Expr} {body : List Stmt} {wi : WI} {g : Tg} {b : WS} {pos : Pos} (hp : PassesOwn (model X.prog X.w) X.A X.env X.xe) (hc : X.calm = true) (hi : GI X tg iter wi) (hg : PG X tg (g.g X.K)) (hb : GSs X body b)
    (hs : ∀ x, foldedSetIterable iter X.env x = pure x := by intro _; rfl) : GS X (.For tg iter body [] pos) (wFor wi g b) := gs_of (ps_for hp hc hi hg hb hs) fun E σ H ⟨F, D, A, sl, k, S, hw, q1, q2, q3, q4⟩ =>
  ⟨F, D, A, sl, _, S, hw, fun J H1 ts b1 io hx => for_core (S.beh b1) io hx q1 q4⟩
def wLoop (c : WT) (b : WS) (k : Ks) : Nat → List Sl → Prop
  | 0, _ => False
  | n + 1, sl => c sl fun v => if v = true then b { nx := wLoop c b k n, ct := wLoop c b k n, bk := k.nx, rt := k.rt } sl else k.nx sl
def wWhile (c : WT) (b : WS) : WS := fun k sl => ∃ n, wLoop c b k n sl
/-! ### 13. a def -/
def retK (P : Sl → Prop) : Sl → Prop
  | .val t => P (.val t)
  | .ob _ (.lst ts) => P (.val (.lst ts))
  | .ob _ (.dct ks ts) => P (.val (.dct ks ts))
  | _ => False
def wDef (n m : Nat) (ws : WS) : WF := fun xs P => xs.length = n ∧ ws ⟨fun _ => P (.val .non), retK P, fun _ => False, fun _ => False⟩ (xs ++ List.replicate m .any)
end
section
variable {P : Program} {w : World} {K : PySem.W.Frag} {mg : Str → Option Value} {base : Heap}
theorem Paired.length_eq {α β : Type} {R : α → β → Prop} : ∀ {xs : List α} {ys : List β}, Paired R xs ys → xs.length = ys.length
  | _, _, .nil => rfl
  | _, _, .cons _ r => congrArg (· + 1) (Paired.length_eq r)
theorem start_sta {D A : Avoid} {H : Hp} {vs : List V} {xs : List Sl} {N : List Str} {m : Nat} (h1 : ∀ d ∈ D, MovAt H d) (h2 : ∀ d ∈ D, d ∈ A) (h3 : Liv D A H) (h4 : Paired (ArgOk K D A H) vs xs) (hm : N.length - vs.length = m) :
    Sta K ⟨D, A, H, [], []⟩ D A H (L2.start N vs) (xs ++ List.replicate m .any) where
  dice := h1
  dA := h2
  sub := fun _ h => h
  alive := h3.alive
  base := fun _ h => .inl h
  dbase := fun _ h => .inl h
  dsub := fun _ h => h
  keep := fun _ _ => Keep.refl
  tabs := h3.tabs
  ext := Ext.refl H
  slots := by
    unfold L2.start
    rw [hm]
    refine Paired.app ?_ ?_
    · clear hm
      induction h4 with
      | nil => exact .nil
      | @cons v x vs xs q r ih =>
        refine .cons (.inr ⟨v, rfl, ?_⟩) ih
        cases x with
        | val t => exact q
        | dice => exact q
        | any => trivial
        | ob l ts => exact q.elim
    · clear hm h4
      induction m with
      | zero => exact .nil
      | succ m ih => exact .cons (.inl rfl) ih
  dist := fun i j l l' ts ts' e1 e2 n => by
    have no : ∀ (vs : List V) (xs : List Sl), Paired (ArgOk K D A H) vs xs → ∀ x ∈ xs, x ≠ Sl.ob l ts := by
      intro vs xs r
      induction r with
      | nil => exact fun x hx => by cases hx
      | cons q r ih =>
        intro x hx z
        rcases List.mem_cons.mp hx with hx | hx
        · subst hx; subst z; exact q
        · exact ih x hx z
    rcases List.mem_append.mp (List.mem_of_getElem? e1) with hx | hx
    · exact absurd rfl (no vs xs h4 _ hx)
    · cases List.eq_of_mem_replicate hx
  gh := fun p hp => by cases hp
  lk := fun p hp => by cases hp
theorem fn_tree {x qual : Str} {params : Arguments} {body : List Stmt} {scope : Scope} {dvs : List V} {kws : List (Str × V)} {f : Addr} {fd : FuncData} {N ps : List Str} {k n m : Nat} {ws : WS} (F : FunD K x qual params body scope dvs kws f fd) (S : FnScope N ps scope) (hn : ps.length = n) (hm : N.length - n = m)
    (hb : ∀ (cdv : Value) (A : Around) (outer : List Env) (s : Shared) (H : Hp) (E : XK), Room k (A.deeper (envOfC qual scope s.heap.objs.size f cdv)) → GSs (cxOf CX0 P w K mg base N qual scope f cdv A outer s H E).nox body ws) :
    FnOk P w K mg base CX0 (k + 1) f fd ps (spT K (wDef n m ws)) := by
  refine F.ok S (fun vs H Q E h => ?_) (fun cdv A outer s H vs Q E hr h => ?_)
  · obtain ⟨D, A, xs, P', _, _, _, h4, h5, _⟩ := h
    rw [Paired.length_eq h4, h5.1, hn]
  · obtain ⟨D, A', xs, P', h1, h2, h3, h4, h5, q⟩ := h
    refine ⟨_, PSs.nox (hb cdv A outer s H E hr), ⟨D, A', H, [], []⟩, D, A', _, _, start_sta h1 h2 h3 h4 (m := m) (by rw [Paired.length_eq h4, h5.1]; exact hm), h5.2, fun D' A2 H' σ' sl' S' hx => ?_, fun _ _ _ _ _ _ z => z.elim, fun _ _ _ _ _ _ z => z.elim, fun D' A2 H' σ' sl' v x S' ok hx => ?_⟩
    · exact q .non H' (.val .non) ⟨S'.ext, S'.keep⟩ Rep.non hx
    · have be : Beh D H H' := ⟨S'.ext, S'.keep⟩
      cases x with
      | val t => exact q v H' (.val t) be (Rep.sub S'.sub ok) hx
      | ob l ts =>
        obtain ⟨rfl, g1, g2, g3, g4⟩ := ok
        cases ts with
        | lst ts => exact q (.ref l) H' (.val (.lst ts)) be (g4.rep (o := .lst ts) g2 fun _ _ r => r.sub S'.sub) hx
        | dct ks ts => exact q (.ref l) H' (.val (.dct ks ts)) be (g4.rep (o := .dct ks ts) g2 fun _ _ r => r.sub S'.sub) hx
      | any => exact hx.elim
      | dice => exact hx.elim
end
end Tr


set_option Elab.async false
set_option linter.all false
set_option maxRecDepth 100000
set_option maxHeartbeats 0
namespace Tr
open PySem PySem.Spec PyProof.Rows L2
variable [Tabl]
/-! ### 14. defs by name -/
/-- a def of one's own stands under x and keeps wf; dvs: the defaults that a caller leaves out -/
def CallD (P : Program) (w : World) (K : PySem.W.Frag) (mg : Str → Option Value) (base : Heap) (k : Nat) (x : Str) (wf : WF) (dvs : List V) : Prop :=
  ∃ (f : Addr) (fd : FuncData) (ps : List Str) (ds : List Value), FnOk P w K mg base CX0 k f fd ps (spT K wf) ∧ mg x = some (.ref f) ∧ PySem.W.keepIn K (.ref f) = true ∧ Binds K fd ps ds ∧ Vals dvs ds
section
variable {X : Cx}
theorem ge_callD {j k : Nat} {wf : WF} {dvs : List V} {dts : List T} {x : Str} {e : Expr} {es : List Expr} {a : WA} {p pos : Pos} (d : CallD X.prog X.w X.K X.mg X.base k x wf dvs) (hr : Room j X.A) (hg : Gl X x) (hc : CTs dvs dts)
    (ha : GA X (e :: es) a) (hkj : k ≤ j := by decide) (hdb : (x == ("__debug__" : Str)) = false := by decide) (he : starEach (e :: es) X.env = (false, eval e X.env) :: starEach es X.env := by rfl) (hpl : (backTo pos (starEach es X.env)).any (·.1) = false := by rfl) :
    GE X (.Call (.Name x p) (e :: es) [] pos) (wCall wf dts a) := by
  obtain ⟨f, fd, ps, ds, F, hm, hk, hb, hd⟩ := d
  exact ge_call F (hr.mono hkj) hg hm hk hb hd hc ha hdb he hpl
end
section
variable {P : Program} {w : World} {K : PySem.W.Frag} {mg : Str → Option Value} {base : Heap} {x qual : Str} {params : Arguments} {body : List Stmt} {scope : Scope} {dvs : List V} {kws : List (Str × V)} {f : Addr} {fd : FuncData} {ps : List Str} {k : Nat} {wf : WF}
/-- no defaults -/
theorem CallD.of (F : FunD K x qual params body scope [] kws f fd) (G : FnOk P w K mg base CX0 k f fd ps (spT K wf)) (hm : mg x = some (.ref f))
    (h : ∀ (kV doc pm : Value) (an : Option Addr) (cdv ct : Value) (us : List Value), us.length = ps.length → bindArgs (PySem.W.fnOf x qual params body scope .none kV doc pm an cdv ct) ⟨us, []⟩ = pure (ps.zip us)) : CallD P w K mg base k x wf [] :=
  ⟨f, fd, ps, [], G, hm, F.kp, F.bindsN h, .nil⟩
/-- n arguments are given, j of the defaults with them -/
theorem CallD.dfl (F : FunD K x qual params body scope dvs kws f fd) (G : FnOk P w K mg base CX0 k f fd ps (spT K wf)) (hm : mg x = some (.ref f)) (n j : Nat) (hd : dvs ≠ []) (hn : n + (dvs.length - j) = ps.length)
    (h : ∀ (T : Addr) (kV doc pm : Value) (an : Option Addr) (cdv ct : Value) (us its : List Value), us.length = n → its.length = dvs.length →
      ∃ k, bindArgs (PySem.W.fnOf x qual params body scope (.ref T) kV doc pm an cdv ct) ⟨us, []⟩ = seqItems? (.ref T) >>= k ∧ k (some its.toArray) = pure (ps.zip (us ++ its.drop j))) : CallD P w K mg base k x wf (dvs.drop j) := by
  obtain ⟨ds, h1, h2⟩ := F.binds1 n j hd hn h
  exact ⟨f, fd, ps, ds, G, hm, F.kp, h2, h1⟩
end

/-! ### 15. the dice -/
section
variable {X : Cx} {K : PySem.W.Frag}
/-- a call that makes new dice -/
def spD (K : PySem.W.Frag) (pre : List Sl → Prop) : Sp := fun vs H Q _ => ∃ D A xs, (∀ d ∈ D, MovAt H d) ∧ (∀ d ∈ D, d ∈ A) ∧ Liv D A H ∧ Paired (ArgOk K D A H) vs xs ∧ pre xs ∧ ∀ p H' a b c, Beh D H H' → H p = none → p ∉ A → H' p = some (.lst [.int a, .int b, .int c]) → Q (.ref p) H'
def DiceD (P : Program) (w : World) (K : PySem.W.Frag) (mg : Str → Option Value) (base : Heap) (k : Nat) (x : Str) (pre : List Sl → Prop) : Prop :=
  ∃ (f : Addr) (fd : FuncData) (ps : List Str), FnOk P w K mg base CX0 k f fd ps (spD K pre) ∧ mg x = some (.ref f) ∧ PySem.W.keepIn K (.ref f) = true ∧ Binds K fd ps []
def wDice (pre : List Sl → Prop) (a : WA) (i : Nat) : WS := fun k sl => a sl fun xs => xs.all isArg = true ∧ pre xs ∧ k.nx (sl.set i .dice)
/-- a body whose last row returns a new list -/
def rOf (K : PySem.W.Frag) (w : List Sl → (List T → Prop) → Prop) : TS := fun E σ H => ∃ F D A sl P, Sta K F D A H σ sl ∧ w sl P ∧ ∀ p H' D' A' vs ts, Beh F.D0 F.H0 H' → F.H0 p = none → (∀ a ∈ F.A0, a ∈ A') → p ∉ A' → H' p = some (.lst vs) → RepAll K (p :: A') H' vs ts → P ts → D' = F.D0 → E.rt (.ref p) H'
abbrev GR (X : Cx) (sts : List Stmt) (w : List Sl → (List T → Prop) → Prop) : Prop := PSs X sts (rOf X.K w)
theorem gr_ret {e : Expr} {pos : Pos} {w : WL} (h : GL X e w) : GR X [.Return (some e) pos] w := ⟨fun pins sh σ H E I ⟨F, D, A, sl, P, S, hw, q⟩ => (pss_one (ps_ret h)).run pins sh σ H E I ⟨F, D, A, sl, _, S, hw, fun p H' vs ts b hp hA hv r hP => by
  have S1 := S.beh b
  exact q p H' F.D0 A vs ts ⟨S1.ext, S1.keep⟩ (S.fresh0 hp) S1.sub hA hv r hP rfl⟩⟩
def wrSeq (a : WS) (b : List Sl → (List T → Prop) → Prop) : List Sl → (List T → Prop) → Prop := fun sl P => a ⟨fun sl' => b sl' P, fun _ => False, fun _ => False, fun _ => False⟩ sl
theorem gr_cons {st : Stmt} {rest : List Stmt} {a : WS} {b : List Sl → (List T → Prop) → Prop} (h : GS X st a) (h2 : GR X rest b) : GR X (st :: rest) (wrSeq a b) := ⟨fun pins sh σ H E I ⟨F, D, A, sl, P, S, hw, q⟩ =>
  (pss_cons h h2).run pins sh σ H E I ⟨F, D, A, sl, _, S, hw, fun D' A' H' σ' sl' S' hb => ⟨F, D', A', sl', P, S', hb, q⟩, fun _ _ _ _ _ _ z => z.elim, fun _ _ _ _ _ _ z => z.elim, fun _ _ _ _ _ _ _ _ _ z => z.elim⟩⟩
end
section
variable {P : Program} {w : World} {K : PySem.W.Frag} {mg : Str → Option Value} {base : Heap}
theorem fn_dice {x qual : Str} {params : Arguments} {body : List Stmt} {scope : Scope} {dvs : List V} {kws : List (Str × V)} {f : Addr} {fd : FuncData} {N ps : List Str} {k n m : Nat} {ws : List Sl → (List T → Prop) → Prop} {pre : List Sl → Prop} (F : FunD K x qual params body scope dvs kws f fd) (S : FnScope N ps scope) (hn : ps.length = n) (hm : N.length - n = m)
    (hb : ∀ (cdv : Value) (A : Around) (outer : List Env) (s : Shared) (H : Hp) (E : XK), Room k (A.deeper (envOfC qual scope s.heap.objs.size f cdv)) → GR (cxOf CX0 P w K mg base N qual scope f cdv A outer s H E).nox body ws)
    (hp : ∀ xs, pre xs → xs.length = n ∧ ws (xs ++ List.replicate m .any) fun ts => ∃ a b c : Int, ts = [.int a, .int b, .int c]) :
    FnOk P w K mg base CX0 (k + 1) f fd ps (spD K pre) := by
  refine F.ok S (fun vs H Q E h => ?_) (fun cdv A outer s H vs Q E hr h => ?_)
  · obtain ⟨D, A, xs, _, _, _, h4, h5, _⟩ := h
    rw [Paired.length_eq h4, (hp xs h5).1, hn]
  · obtain ⟨D, A', xs, h1, h2, h3, h4, h5, q⟩ := h
    obtain ⟨hl, h6⟩ := hp xs h5
    refine ⟨_, PSs.nox (hb cdv A outer s H E hr), ⟨D, A', H, [], []⟩, D, A', _, _, start_sta h1 h2 h3 h4 (m := m) (by rw [Paired.length_eq h4, hl]; exact hm), h6, fun p H' D' A2 vs' ts g1 g3 g4 g5 g6 g7 g8 _ => ?_⟩
    obtain ⟨a, b, c, rfl⟩ := g8
    have e : vs' = [.int a, .int b, .int c] := by
      cases g7 with | cons r1 g7 => cases g7 with | cons r2 g7 => cases g7 with | cons r3 g7 =>
        cases g7
        cases r1
        cases r2
        cases r3
        rfl
    rw [e] at g6
    exact q p H' a b c g1 g3 (fun z => g5 (g4 p z)) g6
theorem CallD.mono {k : Nat} {x : Str} {wf wf' : WF} {dvs : List V} (d : CallD P w K mg base k x wf dvs) (h : ∀ xs Q, wf' xs Q → wf xs Q) : CallD P w K mg base k x wf' dvs := by
  obtain ⟨f, fd, ps, ds, F, r⟩ := d
  refine ⟨f, fd, ps, ds, F.imp fun vs H Q E q => ?_, r⟩
  obtain ⟨D, A, xs, P', h1, h2, h3, h4, h5, h6⟩ := q
  exact ⟨D, A, xs, P', h1, h2, h3, h4, h _ _ h5, h6⟩
/-! one roll -/
def wRoll : WF := fun xs P => ∃ n : Int, xs = [.dice, .val (.int n)] ∧ 0 < n ∧ n.natAbs.log2 < 9000 ∧ ∀ r : Int, 0 ≤ r → r < n → P (.val (.int r))
end
section
variable {X : Cx} {K : PySem.W.Frag}
/-- dice[j] -/
def wDix (i : Nat) : WE := fun sl P => nth sl i = .dice ∧ ∀ n : Int, P (.val (.int n))
theorem ge_dix (i : Nat) {x : Str} {p p2 pos : Pos} {j : Nat} {kk} (hj : j < 3) (hN : X.N[i]? = some x := by rfl) (hv : Vis X.env.scope x := by first | exact Or.inl rfl | exact Or.inr (Or.inl rfl) | exact Or.inr (Or.inr rfl)) (hd : (x == ("__debug__" : Str)) = false := by decide)
    (hcd : (x == ("__classdict__" : Str)) = false := by decide) (hs : PlainIx (.Constant (.int (j : Nat)) kk p2) := by exact fun _ _ => rfl) : GE X (.Subscript (.Name x p) (.Constant (.int (j : Nat)) kk p2) pos) (wDix i) := ge_of (pe_ix ix_list (pe_var hN hv hd hcd) pe_int hs) fun F D A H σ sl P Q S hw q => by
  obtain ⟨hn, hw⟩ := hw
  obtain ⟨u, hu, ok⟩ := S.get (nth_val hn (fun z => nomatch z)) (fun z => nomatch z)
  obtain ⟨d, rfl, hdD, a, b, c, hH⟩ := ok
  have fin : ∀ n : Int, Q (.int n) H := fun n => q (.int n) H (.val (.int n)) (Beh.refl S) (Rep.int n) (hw n)
  match j, hj with
  | 0, _ => exact ⟨.ref d, hu, d, _, 0, .int a, rfl, rfl, .inl (.inl hH), atI_nat (j := 0) rfl, fin a⟩
  | 1, _ => exact ⟨.ref d, hu, d, _, 1, .int b, rfl, rfl, .inl (.inl hH), atI_nat (j := 1) rfl, fin b⟩
  | 2, _ => exact ⟨.ref d, hu, d, _, 2, .int c, rfl, rfl, .inl (.inl hH), atI_nat (j := 2) rfl, fin c⟩
/-- dice[j] = e -/
def wDst (i : Nat) (e : WE) : WS := fun k sl => nth sl i = .dice ∧ e sl fun x => ∃ n : Int, x = .val (.int n) ∧ k.nx sl
theorem Sta.roll {F : Fx} {D A : Avoid} {H : Hp} {σ : L2.St} {sl : List Sl} {d : Addr} {a b c : Int} (S : Sta K F D A H σ sl) (hd : d ∈ D) (hH : DiceAt H d) : Sta K F D A (upd H d (.lst [.int a, .int b, .int c])) σ sl :=
  S.beh ⟨Ext.mut hd, fun e he => by
    obtain ⟨x, y, w, h⟩ := hH
    by_cases z : e = d
    · subst z; exact ⟨fun _ => ⟨a, b, c, upd_same⟩, fun q _ ⟨ps, t1, _⟩ => by rw [h] at t1; cases t1⟩
    · exact Keep.upd z fun φ z => by rw [h] at z; cases z⟩
theorem gs_dst (i : Nat) {x : Str} {e : Expr} {w : WE} {p p2 p3 pos : Pos} {j : Nat} {kk} (hj : j < 3) (he : GE X e w) (hN : X.N[i]? = some x := by rfl) (hv : Vis X.env.scope x := by first | exact Or.inl rfl | exact Or.inr (Or.inl rfl) | exact Or.inr (Or.inr rfl)) (hd : (x == ("__debug__" : Str)) = false := by decide)
    (hcd : (x == ("__classdict__" : Str)) = false := by decide)
    (ha : ∀ v, assign (.Subscript (.Name x p) (.Constant (.int (j : Nat)) kk p2) p3) X.env v = (do
      let ov ← holding [v] (eval (.Name x p) X.env)
      let iv ← holding [v, ov] (eval (.Constant (.int (j : Nat)) kk p2) X.env)
      standAt p3
      holding [v, ov, iv] (setItem ov iv v)
      release [v, ov, iv] []) := by intro _; rfl)
    (hs : swapsWithSole [.Subscript (.Name x p) (.Constant (.int (j : Nat)) kk p2) p3] e pos.line X.env = pure false := by rfl) (hw : swappedStores [.Subscript (.Name x p) (.Constant (.int (j : Nat)) kk p2) p3] e X.env = pure none := by rfl) (h1 : (assignEach [.Subscript (.Name x p) (.Constant (.int (j : Nat)) kk p2) p3] X.env).map (·.2) = [assign (.Subscript (.Name x p) (.Constant (.int (j : Nat)) kk p2) p3) X.env] := by rfl) :
    GS X (.Assign [.Subscript (.Name x p) (.Constant (.int (j : Nat)) kk p2) p3] e pos) (wDst i w) := gs_of (ps_asg he (pg_sub (pe_var hN hv hd hcd) pe_int set_list ha) hs hw h1) fun E σ H ⟨F, D, A, sl, k, S, hw, q1, _⟩ => by
  obtain ⟨hn, hw⟩ := hw
  refine ⟨F, D, A, sl, _, S, hw, fun v H1 x b1 ok hx => ?_⟩
  obtain ⟨n, rfl, hp⟩ := hx
  cases ok
  have S1 := S.beh b1
  obtain ⟨u, hu, ok⟩ := S1.get (nth_val hn (fun z => nomatch z)) (fun z => nomatch z)
  obtain ⟨d, rfl, hdD, a, b, c, hH⟩ := ok
  match j, hj with
  | 0, _ => exact ⟨.ref d, hu, d, _, 0, 0, rfl, rfl, hH, rfl, q1 _ _ _ _ _ (S1.roll hdD ⟨_, _, _, hH⟩) hp⟩
  | 1, _ => exact ⟨.ref d, hu, d, _, 1, 1, rfl, rfl, hH, rfl, q1 _ _ _ _ _ (S1.roll hdD ⟨_, _, _, hH⟩) hp⟩
  | 2, _ => exact ⟨.ref d, hu, d, _, 2, 2, rfl, rfl, hH, rfl, q1 _ _ _ _ _ (S1.roll hdD ⟨_, _, _, hH⟩) hp⟩
end
end Tr


set_option Elab.async false
set_option linter.all false
set_option maxRecDepth 100000
set_option maxHeartbeats 0
namespace Tr
open PySem PySem.Spec PyProof.Rows L2
variable [Tabl]
section
variable {X : Cx} {K : PySem.W.Frag}
/-! ### 17. x, y = e, f where a list of one's own is born -/
def wParVO (i j : Nat) (a : WE) (w : WL) : WS := fun k sl => a sl fun x => storable x = true ∧ w sl fun ts => ∀ l, k.nx ((sl.set i x).set j (.own l ts))
def wParOV (i j : Nat) (w : WL) (a : WE) : WS := fun k sl => w sl fun ts => a sl fun x => storable x = true ∧ ∀ l, k.nx ((sl.set i (.own l ts)).set j x)
def wParOO (i j : Nat) (w v : WL) : WS := fun k sl => w sl fun ts => v sl fun us => ∀ l m, k.nx ((sl.set i (.own l ts)).set j (.own m us))
/-! ### 18. the greatest, the least of a list or a tuple of whole numbers -/
def oneOf (x : Sl) (ns : List Int) : Prop := x.tree = some (.lst (ns.map T.int)) ∨ x.tree = some (.tup (ns.map T.int))
def wMaxA (w : WA) : WE := fun sl P => w sl fun xs => ∃ (x : Sl) (ns : List Int), xs = [x] ∧ oneOf x ns ∧ 0 < ns.length ∧ ∀ m, m ∈ ns → (∀ y, y ∈ ns → y ≤ m) → P (.val (.int m))
def wMinA (w : WA) : WE := fun sl P => w sl fun xs => ∃ (x : Sl) (ns : List Int), xs = [x] ∧ oneOf x ns ∧ 0 < ns.length ∧ ∀ m, m ∈ ns → (∀ y, y ∈ ns → m ≤ y) → P (.val (.int m))
/-! ### 19. xs[i] = e, xs a list of one's own -/
def wSto (i : Nat) (ix e : WE) : WS := fun k sl => ∃ l ts, nth sl i = .own l ts ∧ e sl fun x => ∃ t, x = .val t ∧ ix sl fun y => ∃ (n : Int) (j : Nat), y = .val (.int n) ∧ ixN ts.length n = some j ∧ k.nx (sl.set i (.own l (ts.set j t)))
end
end Tr


set_option Elab.async false
set_option linter.all false
set_option maxRecDepth 100000
set_option maxHeartbeats 0
/-! Instances of the program's own classes: made, read, compared, told. -/
namespace Tr
open PySem PySem.Spec PyProof.Rows L2
variable [Tabl]

/-! ### 1. a field -/
section
variable {K : PySem.W.Frag} {A : Avoid} {H : Hp}
theorem lookup_rep {f : Str} {t : T} : ∀ {ns : List Str} {vs : List V} {ts : List T}, RepAll K A H vs ts → (ns.zip ts).lookup f = some t → ∃ v, (ns.zip vs).lookup f = some v ∧ Rep K A H v t
  | [], vs, ts, _, e => by simp at e
  | n :: ns, _, _, .nil, e => by simp at e
  | n :: ns, _, _, .cons (v := v) (t := u) h r, e => by
    rw [List.zip_cons_cons, List.lookup_cons] at e ⊢
    cases q : (f == n) with
    | true =>
      rw [q] at e
      cases e
      exact ⟨v, rfl, h⟩
    | false =>
      rw [q] at e
      exact lookup_rep r e
theorem Rep.insI {C : Addr} {ns : List Str} {ts : List T} {v : V} (r : Rep K A H v (.ins C ns ts)) : ∃ a dx vs, v = .ref a ∧ a ∉ A ∧ dx ∉ A ∧ H a = some (.ins C dx (ns.zip vs)) ∧ H dx = some (.own a) ∧ ns.length = vs.length ∧ RepAll K A H vs ts := by
  cases r with
  | ins n m h k l r => exact ⟨_, _, _, rfl, n, m, h, k, l, r⟩
end
section
variable {X : Cx} {K : PySem.W.Frag}
def wFld (C : Addr) (f : Str) (a : WE) : WE := fun sl P => a sl fun x => ∃ ns ts t, x = .val (.ins C ns ts) ∧ (ns.zip ts).lookup f = some t ∧ P (.val t)
theorem ge_fld {C : Addr} {e : Expr} {w : WE} {f : Str} {pos : Pos} (cl : Cls X.K C) (nf : NoAttr X.K C f) (he : GE X e w) (hb : attributeBase e f X.env (eval e X.env) = eval e X.env := by rfl) : GE X (.Attribute e f pos) (wFld C f w) := ge_of (pe_fld he hb) fun F D A H σ sl P Q S hw q =>
  ⟨F, D, A, sl, _, S, hw, fun v H1 x b1 ok hx => by
    obtain ⟨ns, ts, t, rfl, el, hp⟩ := hx
    obtain ⟨a, dx, vs, rfl, ha, hd, h1, h2, hl, r⟩ := Rep.insI ok
    obtain ⟨u, eu, ru⟩ := lookup_rep r el
    exact ⟨a, C, dx, _, u, rfl, h1, cl, nf, eu, q u H1 (.val t) b1 ru hp⟩⟩

/-! ### 2. __init__ -/
/-- the instance that is being made: in the first slot, its fields so far -/
structure SelfAt (K : PySem.W.Frag) (F : Fx) (D A : Avoid) (H : Hp) (σ : L2.St) (i : Nat) (p C : Addr) (ns : List Str) (ts : List T) : Prop where
  slot : σ[i]? = some (some (.ref p))
  obj : ∃ dx vs, p ∈ A ∧ p ∉ F.A0 ∧ p ∉ D ∧ dx ∈ A ∧ dx ∉ F.A0 ∧ dx ∉ D ∧ H p = some (.ins C dx (ns.zip vs)) ∧ H dx = some (.own p) ∧ ns.length = vs.length ∧ RepAll K A H vs ts
theorem SelfAt.beh {F : Fx} {D A : Avoid} {H H' : Hp} {σ : L2.St} {i : Nat} {p C : Addr} {ns : List Str} {ts : List T} (s : SelfAt K F D A H σ i p C ns ts) (d : ∀ a ∈ D, a ∈ A) (b : Beh D H H') : SelfAt K F D A H' σ i p C ns ts := by
  obtain ⟨dx, vs, h1, h2, h3, h4, h5, h6, h7, h8, h9, h10⟩ := s.obj
  exact ⟨s.slot, dx, vs, h1, h2, h3, h4, h5, h6, b.ext _ _ h3 h7, b.ext _ _ h6 h8, h9, h10.mono (ext_da d b.ext)⟩
abbrev WN := (List Str → List T → Prop) → List Sl → List Str → List T → Prop
def nOf (K : PySem.W.Frag) (i : Nat) (C : Addr) (w : WN) : TS := fun E σ H => ∃ F D A sl p ns ts k, Sta K F D A H σ sl ∧ SelfAt K F D A H σ i p C ns ts ∧ w k sl ns ts ∧ ∀ H' ns' ts', Sta K F D A H' σ sl → SelfAt K F D A H' σ i p C ns' ts' → k ns' ts' → E.nx σ H'
abbrev GN (X : Cx) (i : Nat) (C : Addr) (st : Stmt) (w : WN) : Prop := PS X st (nOf X.K i C w)
abbrev GNs (X : Cx) (i : Nat) (C : Addr) (sts : List Stmt) (w : WN) : Prop := PSs X sts (nOf X.K i C w)
theorem gn_of {i : Nat} {C : Addr} {st : Stmt} {t : TS} {w : WN} (h : PS X st t) (s : ∀ E σ H, nOf X.K i C w E σ H → t E σ H) : GN X i C st w := ⟨fun pins sh σ H E I q => h.run pins sh σ H E I (s E σ H q)⟩
def wnDrop (e : WE) : WN := fun k sl ns ts => e sl fun _ => k ns ts
theorem gn_expr {i : Nat} {C : Addr} {e : Expr} {pos : Pos} {w : WE} (he : GE X e w) (hs : swapsWith e none pos.line X.env = pure false := by rfl) : GN X i C (.Expr e pos) (wnDrop w) := gn_of (ps_expr he hs) fun E σ H ⟨F, D, A, sl, p, ns, ts, k, S, s, hw, q⟩ =>
  ⟨F, D, A, sl, _, S, hw, fun v H1 x b1 ok hx => q H1 ns ts (S.beh b1) (s.beh S.dA b1) hx⟩
theorem putF_new {f : Str} {v : V} : ∀ {ns : List Str} {vs : List V}, f ∉ ns → ns.length = vs.length → putF f v (ns.zip vs) = (ns ++ [f]).zip (vs ++ [v])
  | [], [], _, _ => rfl
  | n :: ns, w :: vs, h, l => by
    rw [List.mem_cons, not_or] at h
    show (if n = f then _ else (n, w) :: putF f v (ns.zip vs)) = _
    rw [if_neg (fun z => h.1 z.symm), putF_new h.2 (by simpa using l)]
    rfl
  | [], _ :: _, _, l => by cases l
  | _ :: _, [], _, l => by cases l
/-- self.f = e, f new -/
def wnSet (f : Str) (e : WE) : WN := fun k sl ns ts => e sl fun x => ∃ t, x = .val t ∧ f ∉ ns ∧ ns.length < 500 ∧ k (ns ++ [f]) (ts ++ [t])
theorem gn_set {i : Nat} {C : Addr} {e : Expr} {y f : Str} {w : WE} {pos pos' p0 : Pos} (cl : Cls X.K C) (nf : NoAttr X.K C f) (he : GE X e w) (hN : X.N[i]? = some y := by rfl) (hv : Vis X.env.scope y := by first | exact Or.inl rfl | exact Or.inr (Or.inl rfl) | exact Or.inr (Or.inr rfl))
    (hd : (y == ("__debug__" : Str)) = false := by decide) (hcd : (y == ("__classdict__" : Str)) = false := by decide) (hs : swapsWith e (some (.Attribute (.Name y p0) f pos')) pos.line X.env = pure false := by rfl) :
    GN X i C (.Assign [.Attribute (.Name y p0) f pos'] e pos) (wnSet f w) := gn_of (ps_fld (pe_var hN hv hd hcd) he hs) fun E σ H ⟨F, D, A, sl, p, ns, ts, k, S, s, hw, q⟩ =>
  ⟨F, D, A, sl, _, S, hw, fun v H1 x b1 ok hx => by
    obtain ⟨t, rfl, hf, hl, hp⟩ := hx
    have S1 := S.beh b1
    have s1 := s.beh S.dA b1
    obtain ⟨dx, vs, h1, h2, h3, h4, h5, h6, h7, h8, h9, h10⟩ := s1.obj
    refine ⟨.ref p, s1.slot, p, C, dx, _, rfl, h7, cl, nf, by rw [List.length_zip]; omega, ?_⟩
    have no : ∀ (j : Nat) (l' : Addr) (us : OwnT), sl[j]? = some (Sl.ob l' us) → l' ≠ p := fun j l' us e => by
      obtain ⟨v', _, ok'⟩ := S1.get e (fun z => nomatch z)
      obtain ⟨_, _, _, _, g4⟩ := ok'
      cases us with
      | lst _ =>
        obtain ⟨ws, g, _⟩ := g4
        exact ne_of g h7 (by intro z; cases z)
      | dct _ _ =>
        obtain ⟨ws, g, _⟩ := g4
        exact ne_of g h7 (by intro z; cases z)
    have S2 := S1.write (o := .ins C dx (putF f v (ns.zip vs))) h1 h2 h3 no (fun φ z => by rw [h7] at z; cases z)
    refine q _ (ns ++ [f]) (ts ++ [t]) S2 ⟨s1.slot, dx, vs ++ [v], h1, h2, h3, h4, h5, h6, by rw [upd_same, putF_new hf h9], by rw [upd_ne (ne_of h8 h7 (by intro z; cases z))]; exact h8, by rw [List.length_append, List.length_append, h9]; rfl, ?_⟩ hp
    exact (h10.append (.cons ok .nil)).mono (Ext.mut h1)⟩
def wnNever : WN := fun _ _ _ _ => False
/-- self.f = e, f there or new -/
def putNs (f : Str) : List Str → List Str
  | [] => [f]
  | n :: r => if n = f then n :: r else n :: putNs f r
def putTs {α : Type} (f : Str) (t : α) : List Str → List α → List α
  | [], _ => [t]
  | n :: r, u :: us => if n = f then t :: us else u :: putTs f t r us
  | _ :: _, [] => []
theorem putF_zip {f : Str} {v : V} : ∀ {ns : List Str} {vs : List V}, ns.length = vs.length → putF f v (ns.zip vs) = (putNs f ns).zip (putTs f v ns vs)
  | [], [], _ => rfl
  | n :: ns, w :: vs, l => by
    show (if n = f then (n, v) :: ns.zip vs else (n, w) :: putF f v (ns.zip vs)) = _
    by_cases h : n = f
    · rw [if_pos h, putNs, if_pos h, putTs, if_pos h]
      rfl
    · rw [if_neg h, putNs, if_neg h, putTs, if_neg h, putF_zip (by simpa using l)]
      rfl
  | [], _ :: _, l => by cases l
  | _ :: _, [], l => by cases l
theorem put_len {α : Type} {f : Str} {t : α} : ∀ {ns : List Str} {us : List α}, ns.length = us.length → (putNs f ns).length = (putTs f t ns us).length
  | [], [], _ => rfl
  | n :: ns, u :: us, l => by
    by_cases h : n = f
    · rw [putNs, if_pos h, putTs, if_pos h]
      exact l
    · rw [putNs, if_neg h, putTs, if_neg h, List.length_cons, List.length_cons, put_len (by simpa using l)]
  | [], _ :: _, l => by cases l
  | _ :: _, [], l => by cases l
theorem put_rep {A : Avoid} {H : Hp} {f : Str} {v : V} {t : T} (h : Rep K A H v t) : ∀ {ns : List Str} {vs : List V} {ts : List T}, RepAll K A H vs ts → RepAll K A H (putTs f v ns vs) (putTs f t ns ts)
  | [], _, _, r => .cons h .nil
  | n :: ns, _, _, .nil => .nil
  | n :: ns, _, _, .cons g r => by
    by_cases e : n = f
    · rw [putTs, if_pos e, putTs, if_pos e]
      exact .cons h r
    · rw [putTs, if_neg e, putTs, if_neg e]
      exact .cons g (put_rep h r)
def wnPut (f : Str) (e : WE) : WN := fun k sl ns ts => e sl fun x => ∃ t, x = .val t ∧ ns.length < 500 ∧ k (putNs f ns) (putTs f t ns ts)
theorem gn_put {i : Nat} {C : Addr} {e : Expr} {y f : Str} {w : WE} {pos pos' p0 : Pos} (cl : Cls X.K C) (nf : NoAttr X.K C f) (he : GE X e w) (hN : X.N[i]? = some y := by rfl) (hv : Vis X.env.scope y := by first | exact Or.inl rfl | exact Or.inr (Or.inl rfl) | exact Or.inr (Or.inr rfl))
    (hd : (y == ("__debug__" : Str)) = false := by decide) (hcd : (y == ("__classdict__" : Str)) = false := by decide) (hs : swapsWith e (some (.Attribute (.Name y p0) f pos')) pos.line X.env = pure false := by rfl) :
    GN X i C (.Assign [.Attribute (.Name y p0) f pos'] e pos) (wnPut f w) := gn_of (ps_fld (pe_var hN hv hd hcd) he hs) fun E σ H ⟨F, D, A, sl, p, ns, ts, k, S, s, hw, q⟩ =>
  ⟨F, D, A, sl, _, S, hw, fun v H1 x b1 ok hx => by
    obtain ⟨t, rfl, hl, hp⟩ := hx
    have S1 := S.beh b1
    have s1 := s.beh S.dA b1
    obtain ⟨dx, vs, h1, h2, h3, h4, h5, h6, h7, h8, h9, h10⟩ := s1.obj
    refine ⟨.ref p, s1.slot, p, C, dx, _, rfl, h7, cl, nf, by rw [List.length_zip]; omega, ?_⟩
    have no : ∀ (j : Nat) (l' : Addr) (us : OwnT), sl[j]? = some (Sl.ob l' us) → l' ≠ p := fun j l' us e => by
      obtain ⟨v', _, ok'⟩ := S1.get e (fun z => nomatch z)
      obtain ⟨_, _, _, _, g4⟩ := ok'
      cases us with
      | lst _ =>
        obtain ⟨ws, g, _⟩ := g4
        exact ne_of g h7 (by intro z; cases z)
      | dct _ _ =>
        obtain ⟨ws, g, _⟩ := g4
        exact ne_of g h7 (by intro z; cases z)
    have S2 := S1.write (o := .ins C dx (putF f v (ns.zip vs))) h1 h2 h3 no (fun φ z => by rw [h7] at z; cases z)
    exact q _ _ _ S2 ⟨s1.slot, dx, putTs f v ns vs, h1, h2, h3, h4, h5, h6, by rw [upd_same, putF_zip h9], by rw [upd_ne (ne_of h8 h7 (by intro z; cases z))]; exact h8, put_len h9, (put_rep ok h10).mono (Ext.mut h1)⟩ hp⟩
def wnNext : WN := fun k _ ns ts => k ns ts
def wnSeq (a b : WN) : WN := fun k sl ns ts => a (fun ns' ts' => b k sl ns' ts') sl ns ts
theorem gns_one {i : Nat} {C : Addr} {st : Stmt} {w : WN} (h : GN X i C st w) : GNs X i C [st] w := pss_one h
theorem gns_cons {i : Nat} {C : Addr} {st : Stmt} {rest : List Stmt} {a b : WN} (h : GN X i C st a) (h2 : GNs X i C rest b) : GNs X i C (st :: rest) (wnSeq a b) := ⟨fun pins sh σ H E I ⟨F, D, A, sl, p, ns, ts, k, S, s, hw, q⟩ =>
  (pss_cons h h2).run pins sh σ H E I ⟨F, D, A, sl, p, ns, ts, _, S, s, hw, fun H' ns' ts' S' s' hb => ⟨F, D, A, sl, p, ns', ts', k, S', s', hb, q⟩⟩⟩
/-- if t: .. else: .. -/
def wnIf (t : WT) (a b : WN) : WN := fun k sl ns ts => t sl fun c => if c = true then a k sl ns ts else b k sl ns ts
/-- what __init__ promises -/
abbrev WM := List Sl → (List Str → List T → Prop) → Prop
def spN (K : PySem.W.Frag) (C : Addr) (wf : WM) : Sp := fun vs H Q _ => ∃ D A p dx us H0 xs P, vs = .ref p :: us ∧ H = upd (upd H0 dx (.own p)) p (.ins C dx []) ∧ H0 p = none ∧ H0 dx = none ∧ dx ≠ p ∧ (∀ d ∈ D, MovAt H0 d) ∧ (∀ d ∈ D, d ∈ A) ∧ Liv D A H0 ∧
  Paired (ArgOk K D A H0) us xs ∧ wf xs P ∧ ∀ H' dx' ns ws ts, Beh D H0 H' → H' p = some (.ins C dx' (ns.zip ws)) → dx' ∉ A → H0 dx' = none → H' dx' = some (.own p) → ns.length = ws.length → RepAll K (p :: dx' :: A) H' ws ts → P ns ts → Q .non H'
def wInit (n m : Nat) (ws : WN) : WM := fun xs P => xs.length = n ∧ ws P (.any :: (xs ++ List.replicate m .any)) [] []
end
section
variable {P : Program} {w : World} {K : PySem.W.Frag} {mg : Str → Option Value} {base : Heap}
theorem Sta.cons {F : Fx} {D A : Avoid} {H : Hp} {σ : L2.St} {sl : List Sl} (S : Sta K F D A H σ sl) (o : Option V) : Sta K F D A H (o :: σ) (.any :: sl) :=
  { S with
    slots := .cons (.inl rfl) S.slots
    dist := fun i j l l' ts ts' e1 e2 n => by
      cases i with
      | zero => cases e1
      | succ i => cases j with
        | zero => cases e2
        | succ j => exact S.dist i j l l' ts ts' (by simpa using e1) (by simpa using e2) (fun z => n (by rw [z])) }
theorem fn_init {x qual : Str} {params : Arguments} {body : List Stmt} {scope : Scope} {dvs : List V} {kws : List (Str × V)} {f C : Addr} {fd : FuncData} {N ps : List Str} {k n m : Nat} {ws : WN} (F : FunD K x qual params body scope dvs kws f fd) (S : FnScope N ps scope) (hn : ps.length = n + 1) (hm : N.length - (n + 1) = m)
    (hb : ∀ (cdv : Value) (A : Around) (outer : List Env) (s : Shared) (H : Hp) (E : XK), Room k (A.deeper (envOfC qual scope s.heap.objs.size f cdv)) → GNs (cxOf CX0 P w K mg base N qual scope f cdv A outer s H E).nox 0 C body ws) :
    FnOk P w K mg base CX0 (k + 1) f fd ps (spN K C (wInit n m ws)) := by
  refine F.ok S (fun vs H Q E h => ?_) (fun cdv A outer s H vs Q E hr h => ?_)
  · obtain ⟨D, A, p, dx, us, H0, xs, P', rfl, _, _, _, _, _, _, _, h4, h5, _⟩ := h
    rw [List.length_cons, Paired.length_eq h4, h5.1, hn]
  · obtain ⟨D, A', p, dx, us, H0, xs, P', rfl, rfl, hp, hdx, hne, h1, h2, h3, h4, h5, q⟩ := h
    have hl : us.length = n := by rw [Paired.length_eq h4, h5.1]
    have hL : N.length - us.length.succ = m := by rw [hl]; exact hm
    have S0 := start_sta (K := K) (N := List.replicate (n + m) "") (m := m) h1 h2 h3 h4 (by rw [List.length_replicate, hl]; omega)
    have S1 := (S0.cons (some (.ref p))).grow (p := dx) (o := .own p) hdx
    have S2 := S1.grow (p := p) (o := .ins C dx []) (by rw [upd_ne (fun z => hne z.symm)]; exact hp)
    have e0 : L2.start N (.ref p :: us) = some (.ref p) :: L2.start (List.replicate (n + m) "") us := by
      unfold L2.start
      rw [List.map_cons, List.length_cons, hL, List.length_replicate, hl, show n + m - n = m by omega]
      rfl
    have npA : p ∉ A' := fun z => h3.alive p z hp
    have ndA : dx ∉ A' := fun z => h3.alive dx z hdx
    refine ⟨_, PSs.nox (hb cdv A outer s _ E hr), ⟨D, A', H0, [], []⟩, D, p :: dx :: A', _, p, [], [], P', (by rw [e0]; exact S2), ⟨by rw [e0]; rfl, dx, [], List.mem_cons_self, npA, fun z => npA (h2 p z), List.mem_cons_of_mem _ List.mem_cons_self, ndA, fun z => ndA (h2 dx z), upd_same, by rw [upd_ne hne, upd_same], rfl, .nil⟩, h5.2, fun H' ns' ts' S' s' hk => ?_⟩
    obtain ⟨dx', vs', g1, g2, g3, g4, g5, g6, g7, g8, g9, g10⟩ := s'.obj
    have be : Beh D H0 H' := ⟨S'.ext, S'.keep⟩
    exact q H' dx' ns' vs' ts' be g7 g5 ((S'.base dx' g4).resolve_left g5) g8 g9 (g10.sub fun a ha => by
      rcases List.mem_cons.mp ha with z | ha
      · rw [z]; exact g1
      · rcases List.mem_cons.mp ha with z | ha
        · rw [z]; exact g4
        · exact List.mem_cons_of_mem _ (List.mem_cons_of_mem _ ha)) hk
/-- places of a call's values: of the keywords (true), of the defaults -/
def pickL {α : Type} (is : List (Bool × Nat)) (ms zs : List α) : List α := is.filterMap fun q => if q.1 then zs[q.2]? else ms[q.2]?
/-- a class: how it is made by n values and the keywords ks; dts: what its __init__'s defaults are -/
def MakeD (P : Program) (w : World) (K : PySem.W.Frag) (mg : Str → Option Value) (base : Heap) (k : Nat) (x : Str) (C : Addr) (n : Nat) (ks : List Str) (is : List (Bool × Nat)) (dts : List T) (wf : WM) : Prop :=
  ∃ (f : Addr) (fd : FuncData) (ps : List Str) (mvs : List V) (g : List Value → List Value → List Value), Mk K C f ∧ FnOk P w K mg base CX0 k f fd ps (spN K C wf) ∧ mg x = some (.ref C) ∧ KBn K fd ps (n + 1) ks g (fun vs zs => vs ++ pickL is mvs zs) ∧ ∀ A H, RepAll K A H mvs dts
end
section
variable {X : Cx} {K : PySem.W.Frag}
abbrev GK (X : Cx) (kws : List Keyword) (w : WA) : Prop := PK X kws (aOf X.K w)
/-- C(e, .., k = v, ..) -/
def wMake (C : Addr) (n m : Nat) (is : List (Bool × Nat)) (dts : List T) (wf : WM) (a b : WA) : WE := fun sl P => a sl fun xs => b sl fun ys => xs.length = n ∧ ys.length = m ∧ xs.all isArg = true ∧ ys.all isArg = true ∧ wf (xs ++ pickL is (dts.map Sl.val) ys) fun ns ts => P (.val (.ins C ns ts))
theorem RepAll.args {D A : Avoid} {H : Hp} : ∀ {vs : List V} {ts : List T}, RepAll K A H vs ts → Paired (ArgOk K D A H) vs (ts.map Sl.val)
  | _, _, .nil => .nil
  | _, _, .cons h r => .cons (show ArgOk K D A H _ (.val _) from h) (RepAll.args r)
end
end Tr


set_option Elab.async false
set_option linter.all false
set_option maxRecDepth 100000
set_option maxHeartbeats 0
namespace Tr
open PySem PySem.Spec PyProof.Rows L2
variable [Tabl]

/-! ### 3. == by an own __eq__ -/
section
variable {X : Cx} {K : PySem.W.Frag}
/-- what stands to the right of an own == -/
def TyB (K : PySem.W.Frag) (C : Addr) (y : V) (H : Hp) : Prop := (∃ b dx fs, y = .ref b ∧ H b = some (.ins C dx fs)) ∨ (∃ b xs, y = .ref b ∧ SqT K H b xs) ∨ (∃ b xs, y = .ref b ∧ SqL K H b xs) ∨ y = .non ∨ (∃ i, y = .int i) ∨ (∃ i, y = .bl i) ∨ (∃ z, y = .str z) ∨ (∃ b kvs, y = .ref b ∧ Rd H b (.dK kvs))
def tyOk (C : Addr) : T → Prop
  | .ins C' _ _ => C' = C
  | .tup _ => True
  | .lst _ => True
  | .non => True
  | .int _ => True
  | .bl _ => True
  | .str _ => True
  | .dct _ _ => True
  | _ => False
def rOwn (K : PySem.W.Frag) (C : Addr) (wf : WF) (E : XK) : R2 := fun x y H Q => (∃ a dx fs, x = .ref a ∧ H a = some (.ins C dx fs)) ∧ TyB K C y H ∧ spT K wf [x, y] H (fun v H' => ∃ b, v = .bl b ∧ Q v H') E
/-- the own == of the class at C -/
def EqD (P : Program) (w : World) (K : PySem.W.Frag) (mg : Str → Option Value) (base : Heap) (k : Nat) (C : Addr) (wf : WF) : Prop :=
  ∃ (f : Addr) (fd : FuncData) (ps : List Str), FnOk P w K mg base CX0 k f fd ps (spT K wf) ∧ Meth K C "__eq__" f ∧ Binds K fd ps []
def wOwnEq (C : Addr) (wf : WF) (a b : WE) : WE := fun sl P => a sl fun x => b sl fun y => ∃ ns ts u, x = .val (.ins C ns ts) ∧ y = .val u ∧ tyOk C u ∧ wf [x, y] fun z => ∃ r, z = .val (.bl r) ∧ P z
/-! ### 4. str(x) by an own __str__ -/
def StrD (P : Program) (w : World) (K : PySem.W.Frag) (mg : Str → Option Value) (base : Heap) (k : Nat) (C : Addr) (wf : WF) : Prop :=
  ∃ (f : Addr) (fd : FuncData) (ps : List Str), FnOk P w K mg base CX0 k f fd ps (spT K wf) ∧ Meth K C "__str__" f ∧ Binds K fd ps []
def wStrI (C : Addr) (wf : WF) (a : WA) : WE := fun sl P => a sl fun xs => ∃ ns ts, xs = [.val (.ins C ns ts)] ∧ wf xs fun z => ∃ r, z = .val (.str r) ∧ P z
/-- str(int) -/
def sml (i : Int) : Bool := decide (i.natAbs.log2 < 1920)
def strT : List T → Option T
  | [.int i] => if sml i = true then some (.str (toString i)) else none
  | _ => none
/-! ### 5. f-strings -/
def wFmt (a : WE) : WE := fun sl P => a sl fun x => (∃ y : Str, x = .val (.str y) ∧ few y.length = true ∧ P (.val (.str y))) ∨ ∃ i : Int, x = .val (.int i) ∧ i.natAbs.log2 < 1920 ∧ P (.val (.str (toString i)))
/-- the parts, one behind the other -/
inductive GJ (X : Cx) : List Expr → List WE → Prop
  | nil : GJ X [] []
  | cons {e : Expr} {w : WE} {es : List Expr} {ws : List WE} : GE X e w → GJ X es ws → GJ X (e :: es) (w :: ws)
def wJs : List WE → Str → List Sl → (Str → Prop) → Prop
  | [], acc, _, P => P acc
  | w :: ws, acc, sl, P => w sl fun x => ∃ y : Str, x = .val (.str y) ∧ few (acc ++ y).length = true ∧ wJs ws (acc ++ y) sl P
def wJoin (ws : List WE) : WE := fun sl P => wJs ws Str.empty sl fun z => P (.val (.str z))
/-! ### 6. list(range(..)) -/
def wLstRg1 (a : WE) : WL := fun sl P => a sl fun x => ∃ n : Int, x = .val (.int n) ∧ 0 ≤ n ∧ n ≤ 100000 ∧ P (upTo 0 n.toNat)
/-! ### 7. dict(pairs), d[k] -/
def keyT : T → Option Key
  | .int i => some (.inl i)
  | .str x => some (.inr x)
  | _ => none
/-- pairs of a key and a value -/
def pairsT : List T → Option (List (Key × T))
  | [] => some []
  | .tup [k, v] :: r => (match keyT k, pairsT r with
    | some k, some l => some ((k, v) :: l)
    | _, _ => none)
  | _ => none
def wDGet (a b : WE) : WE := fun sl P => a sl fun x => b sl fun y => ∃ ks ts u k t, x.tree = some (.dct ks ts) ∧ y = .val u ∧ keyT u = some k ∧ ((ks.zip ts).find? fun kv => decide (kv.1 = k)).map (·.2) = some t ∧ P (.val t)
theorem valV_none {kvs : List (Key × V)} {k : Key} (h : k ∉ kvs.map (·.1)) : valV kvs k = none := by
  unfold valV
  rw [Option.map_eq_none_iff, List.find?_eq_none]
  intro kv hkv z
  exact h (List.mem_map.mpr ⟨kv, hkv, of_decide_eq_true z⟩)
theorem merge_new : ∀ {more acc : List (Key × V)}, ((acc ++ more).map (·.1)).Nodup → mergeK acc more = acc ++ more
  | [], acc, _ => by rw [List.append_nil]; rfl
  | kv :: more, acc, h => by
    show mergeK (putK acc kv.1 kv.2) more = _
    have hn : kv.1 ∉ acc.map (·.1) := by
      rw [List.map_append, List.nodup_append] at h
      intro z
      exact h.2.2 _ z _ (by rw [List.map_cons]; exact List.mem_cons_self) rfl
    rw [putK_new _ (valV_none hn)]
    have e : (acc ++ [(kv.1, kv.2)]) ++ more = acc ++ kv :: more := by rw [List.append_assoc]; rfl
    rw [merge_new (by rw [e]; exact h), e]
def wDictP (a : WA) : WE := fun sl P => a sl fun xs => ∃ ts kvt, xs = [.val (.lst ts)] ∧ pairsT ts = some kvt ∧ (kvt.map (·.1)).Nodup ∧ P (.val (.dct (kvt.map (·.1)) (kvt.map (·.2))))
end
end Tr


set_option Elab.async false
set_option linter.all false
set_option maxRecDepth 100000
set_option maxHeartbeats 0
namespace Tr
open PySem PySem.Spec PyProof.Rows L2
variable [Tabl]
/-! ### 8. isinstance with an own class -/
def tyNames : List String := ["tuple", "list", "int", "bool", "str", "NoneType", "dict"]
structure InsD (K : PySem.W.Frag) (C : Addr) : Prop where
  cl : Cls K C
  ha : PySem.W.findIn K (.ref C) "__class__" = some (some (.builtin "object.__class__"))
  hn : PySem.W.specialIn K (.builtin "object.__class__") "__get__" = some (some (.builtin "getset_descriptor.__get__"))
  htk : PySem.W.takesIn K (.builtin "object.__class__") = some true
  hm : PySem.W.mroIn K C (.type "object") = some true
  me : PySem.W.kitOne K (.ref C) (.ref C) = some true
  ot : ∀ n ∈ tyNames, PySem.W.kitOne K (.type n) (.ref C) = some false
def insB (x : Str) (K : PySem.W.Frag) : Bool :=
  decide (PySem.W.findIn K (.ref (He.ga K x)) "__class__" = some (some (.builtin "object.__class__"))) && (decide (PySem.W.specialIn K (.builtin "object.__class__") "__get__" = some (some (.builtin "getset_descriptor.__get__"))) &&
  (decide (PySem.W.takesIn K (.builtin "object.__class__") = some true) && (decide (PySem.W.mroIn K (He.ga K x) (.type "object") = some true) && (decide (PySem.W.kitOne K (.ref (He.ga K x)) (.ref (He.ga K x)) = some true) &&
  tyNames.all fun n => decide (PySem.W.kitOne K (.type n) (.ref (He.ga K x)) = some false)))))
theorem insB_ok {K : PySem.W.Frag} {x : Str} (cl : Cls K (He.ga K x)) (h : insB x K = true) : InsD K (He.ga K x) := by
  unfold insB at h
  rw [Bool.and_eq_true, Bool.and_eq_true, Bool.and_eq_true, Bool.and_eq_true, Bool.and_eq_true] at h
  obtain ⟨h1, h2, h3, h4, h5, h6⟩ := h
  exact ⟨cl, of_decide_eq_true h1, of_decide_eq_true h2, of_decide_eq_true h3, of_decide_eq_true h4, of_decide_eq_true h5, fun n hn => of_decide_eq_true (List.all_eq_true.mp h6 n hn)⟩
def isI (C : Addr) : T → Option Bool
  | .ins C' _ _ => if C' = C then some true else none
  | .ty _ => none
  | .fn _ => none
  | .exc _ _ _ _ => none
  | _ => some false
section
variable {X : Cx} {K : PySem.W.Frag}
theorem isI_ok {C : Addr} {A : Avoid} {H : Hp} {v : V} {t : T} {b : Bool} (d : InsD K C) (r : RepS K A H v t) (e : isI C t = some b) : ∃ ty, TyX K H v ty ∧ PySem.W.kitOne K ty (.ref C) = some b := by
  have other : (∀ C ns ts, t ≠ .ins C ns ts) → (∀ n, t ≠ .ty n) → b = false → tyT t ∈ tyNames → ∃ ty, TyX K H v ty ∧ PySem.W.kitOne K ty (.ref C) = some b := fun h1 h2 h3 h4 => ⟨_, ty_ok r h1 h2 (fun z => by rw [z] at h4; exact absurd h4 (by decide +kernel)), by rw [h3]; exact d.ot _ h4⟩
  cases t with
  | ins C' ns ts =>
    by_cases hc : C' = C
    · subst hc
      rw [show isI C' (.ins C' ns ts) = some true from if_pos rfl] at e
      cases e
      cases r with
      | of r =>
        obtain ⟨a, dx, vs, rfl, _, _, h1, _⟩ := Rep.insI r
        exact ⟨_, .base (.ins h1 d.cl d.ha d.hn d.htk d.hm), d.me⟩
    · rw [show isI C (.ins C' ns ts) = none from if_neg hc] at e
      cases e
  | ty n => cases e
  | fn a => cases e
  | exc a d f t => cases e
  | non => exact other (fun _ _ _ z => nomatch z) (fun _ z => nomatch z) (Option.some.inj e).symm (by simp [tyT, tyNames])
  | bl _ => exact other (fun _ _ _ z => nomatch z) (fun _ z => nomatch z) (Option.some.inj e).symm (by simp [tyT, tyNames])
  | int _ => exact other (fun _ _ _ z => nomatch z) (fun _ z => nomatch z) (Option.some.inj e).symm (by simp [tyT, tyNames])
  | str _ => exact other (fun _ _ _ z => nomatch z) (fun _ z => nomatch z) (Option.some.inj e).symm (by simp [tyT, tyNames])
  | tup _ => exact other (fun _ _ _ z => nomatch z) (fun _ z => nomatch z) (Option.some.inj e).symm (by simp [tyT, tyNames])
  | lst _ => exact other (fun _ _ _ z => nomatch z) (fun _ z => nomatch z) (Option.some.inj e).symm (by simp [tyT, tyNames])
  | scr _ => exact other (fun _ _ _ z => nomatch z) (fun _ z => nomatch z) (Option.some.inj e).symm (by simp [tyT, tyNames])
  | dct _ _ => exact other (fun _ _ _ z => nomatch z) (fun _ z => nomatch z) (Option.some.inj e).symm (by simp [tyT, tyNames])
def wIsI (C : Addr) (w : WE) : WE := fun sl P => w sl fun x => ∃ t b, x.tree = some t ∧ isI C t = some b ∧ P (.val (.bl b))
theorem ge_isI {C : Addr} {x y : Str} {e : Expr} {w : WE} {p p2 pos : Pos} (d : InsD X.K C) (hg : Gl X x) (hm : X.mg x = none) (hv : bootBuiltins x = some (.builtin "isinstance")) (he : GE X e w) (hg2 : Gl X y) (hm2 : X.mg y = some (.ref C))
    (hn : x ≠ "__name__" := by decide) (hdb : (x == ("__debug__" : Str)) = false := by decide) (hdb2 : (y == ("__debug__" : Str)) = false := by decide) (h1 : starEach [e, .Name y p2] X.env = (false, eval e X.env) :: starEach [.Name y p2] X.env := by rfl)
    (h2 : starEach [.Name y p2] X.env = (false, eval (.Name y p2) X.env) :: starEach [] X.env := by rfl) (hpl : (backTo pos (starEach [.Name y p2] X.env)).any (·.1) = false := by rfl) :
    GE X (.Call (.Name x p) [e, .Name y p2] [] pos) (wIsI C w) := ge_of (pe_callB call_isi hg hm hv (pa_cons he (pa_cons (pe_glob (v := .ref C) hg2 hm2 rfl hdb2) pa_nil h2) h1) hn hdb h1 hpl) fun F D A H σ sl P Q S hw q =>
  ⟨F, D, A, sl, _, S, hw, fun v H1 z b1 ok hx => by
    obtain ⟨t, b, et, eb, hp⟩ := hx
    obtain ⟨ty, h3, h4⟩ := isI_ok d (ok.reads et) eb
    exact ⟨v, .ref C, ty, .ref C, b, rfl, .own C, h3, h4, q _ H1 (.val (.bl b)) b1 (Rep.bl b) hp⟩⟩
end
/-! ### a default that is a tuple of whole numbers -/
def kwAt (f : Str × Option Str) (x : Str) (K : PySem.W.Frag) : Addr := match K.lookup (He.fAd K f) with
  | some ⟨_, _, .func fd, _⟩ => (match fd.kwdefaults with
    | .ref D => (match PySem.W.nsIn K D x with
      | some (some (.ref a)) => a
      | _ => 0)
    | _ => 0)
  | _ => 0
def tupI (a : PySem.W.Frag → Addr) (ns : List Int) (K : PySem.W.Frag) : Bool := match K.lookup (a K) with
  | some ⟨.type c, _, .seq its _, _⟩ => decide (c = "tuple") && (decide (its.size ≤ sizeLine) && He.relAll (ns.map V.int) its.toList)
  | _ => false
end Tr
/-! ### 9. a head's facts, and one Bool more -/
namespace HeB
open PySem PySem.Spec PyProof.Rows L2 He
abbrev AlB : Type := AlD × Bool
def obsB (n : Nat) (fa : List Fa) (fn : List DefD) (ex : PySem.W.Frag → Bool) (g : Addr → Option Obj) : AlB := (obsD fa fn (frG g (asD g n)), ex (frG g (asD g n)))
def hookB (n : Nat) (fa : List Fa) (fn : List DefD) (ex : PySem.W.Frag → Bool) : PySem.W.Hook where
  α := AlB
  obs := fun s => obsB n fa fn ex s.heap.get?
  val := fun _ => (valD fn, true)
  says := fun _ h => ∃ K : PySem.W.Frag, K.In h ∧ SaysD fa fn K ∧ ex K = true
  of := fun _ _ e => ⟨_, frG_in, congrArg (fun z : AlB => z.1) e, congrArg (fun z : AlB => z.2) e⟩
  keeps := fun _ _ _ ⟨K, hK, c⟩ k => ⟨K, PySem.W.Frag.In.keeps hK k, c⟩
end HeB


set_option Elab.async false
set_option linter.all false
set_option maxRecDepth 100000
set_option maxHeartbeats 0
namespace Tr
open PySem PySem.Spec PyProof.Rows L2
variable [Tabl]
/-! ### 10. methods -/
section
variable {X : Cx} {K : PySem.W.Frag}
def MethD (P : Program) (w : World) (K : PySem.W.Frag) (mg : Str → Option Value) (base : Heap) (k : Nat) (C : Addr) (m : Str) (wf : WF) (dvs : List V) : Prop :=
  ∃ (f : Addr) (fd : FuncData) (ps : List Str) (ds : List Value), FnOk P w K mg base CX0 k f fd ps (spT K wf) ∧ Meth K C m f ∧ Binds K fd ps ds ∧ Vals dvs ds
theorem lookup_none {m : Str} : ∀ {ns : List Str} {vs : List V}, m ∉ ns → (ns.zip vs).lookup m = none
  | [], _, _ => by rw [List.zip_nil_left]; rfl
  | _ :: _, [], _ => by rw [List.zip_nil_right]; rfl
  | n :: ns, v :: vs, h => by
    rw [List.mem_cons, not_or] at h
    rw [List.zip_cons_cons, List.lookup_cons, beq_eq_false_iff_ne.mpr h.1]
    exact lookup_none h.2
def wMeth (C : Addr) (m : Str) (wf : WF) (dts : List T) (o : WE) (a : WA) : WE := fun sl P => o sl fun x => ∃ ns ts, x = .val (.ins C ns ts) ∧ m ∉ ns ∧ a sl fun xs => xs.all isArg = true ∧ wf (x :: (xs ++ dts.map Sl.val)) P
theorem se_meth {C : Addr} {m : Str} {wf : WF} {dvs : List V} {dts : List T} {o : WE} {a : WA} {E : XK} (hd : CTs dvs dts) : SE K (tMeth C m (spT K wf) dvs E (eOf K o) (aOf K a)) (wMeth C m wf dts o a) := fun F D A H σ sl P Q S hw q =>
  ⟨F, D, A, sl, _, S, hw, fun u H1 x b1 ok hx => by
    obtain ⟨ns, ts, rfl, hm, hx⟩ := hx
    have r0 : Rep K A H1 u (.ins C ns ts) := ok
    obtain ⟨b, dx, vs, rfl, _, _, h1, _⟩ := Rep.insI r0
    refine ⟨b, dx, _, rfl, h1, lookup_none hm, F, D, A, sl, _, S.beh b1, hx, fun vs H2 xs b2 oks hy => ?_⟩
    obtain ⟨e1, hp⟩ := hy
    have S2 := (S.beh b1).beh b2
    have r2 : Rep K A H2 (.ref b) (.ins C ns ts) := r0.mono (ext_da S.dA b2.ext)
    refine ⟨D, A, _, P, S2.dice, S2.dA, S2.liv, .cons (show ArgOk K D A H2 (.ref b) (.val (.ins C ns ts)) from r2) (Paired.app (args_ok oks e1) hd.args), hp, fun v H' x b3 ok hx => q v H' x ((b1.trans b2).trans b3) ?_ hx⟩
    cases x with
    | val t => exact ok
    | _ => exact ok.elim⟩
theorem ge_meth {k j : Nat} {C : Addr} {m : Str} {wf : WF} {dvs : List V} {dts : List T} {o e : Expr} {es : List Expr} {wo : WE} {a : WA} {apos pos : Pos} {pl : Sem Bool} (d : MethD X.prog X.w X.K X.mg X.base k C m wf dvs) (cl : Cls X.K C) (hr : Room j X.A) (hc : CTs dvs dts) (ho : GE X o wo) (ha : GA X (e :: es) a) (hkj : k ≤ j := by decide)
    (hst : starEach (e :: es) X.env = (false, eval e X.env) :: starEach es X.env := by rfl) (hpl : (backTo pos (starEach es X.env)).any (·.1) = false := by rfl)
    (ht : eval (.Call (.Attribute o m apos) (e :: es) [] pos) X.env = (do
      let ov ← eval o X.env
      standAt apos.atName
      let (f, first) ← holding [ov] (getMethod ov m pl)
      callWith pos f first (backTo pos (starEach (e :: es) X.env)) (backToKw pos (keywordEach [] X.env))) := by rfl) :
    GE X (.Call (.Attribute o m apos) (e :: es) [] pos) (wMeth C m wf dts wo a) := by
  obtain ⟨f, fd, ps, ds, F, M, hb, hd⟩ := d
  exact ge_of (pe_meth ho cl M F (hr.mono hkj) hb hd pass0 ha hst hpl ht) (se_meth hc)
theorem ge_meth0 {k j : Nat} {C : Addr} {m : Str} {wf : WF} {dvs : List V} {dts : List T} {o : Expr} {wo : WE} {apos pos : Pos} {pl : Sem Bool} (d : MethD X.prog X.w X.K X.mg X.base k C m wf dvs) (cl : Cls X.K C) (hr : Room j X.A) (hc : CTs dvs dts) (ho : GE X o wo) (hkj : k ≤ j := by decide)
    (ht : eval (.Call (.Attribute o m apos) [] [] pos) X.env = (do
      let ov ← eval o X.env
      standAt apos.atName
      let (f, first) ← holding [ov] (getMethod ov m pl)
      callWith pos f first (backTo pos (starEach [] X.env)) (backToKw pos (keywordEach [] X.env))) := by rfl) :
    GE X (.Call (.Attribute o m apos) [] [] pos) (wMeth C m wf dts wo waNil) := by
  obtain ⟨f, fd, ps, ds, F, M, hb, hd⟩ := d
  refine ge_of (pe_meth0 ho cl M F (hr.mono hkj) hb hd pass0 ht) fun F' D A H σ sl P Q S hw q => ⟨F', D, A, sl, _, S, hw, fun u H1 x b1 ok hx => ?_⟩
  obtain ⟨ns, ts, rfl, hm, e1, hp⟩ := hx
  have r0 : Rep X.K A H1 u (.ins C ns ts) := ok
  have S1 := S.beh b1
  obtain ⟨b, dx, vs, rfl, _, _, h1, _⟩ := Rep.insI r0
  refine ⟨b, dx, _, rfl, h1, lookup_none hm, D, A, _, P, S1.dice, S1.dA, S1.liv, .cons (show ArgOk X.K D A H1 (.ref b) (.val (.ins C ns ts)) from r0) hc.args, hp, fun v H' x b3 ok hx => q v H' x (b1.trans b3) ?_ hx⟩
  cases x with
  | val t => exact ok
  | _ => exact ok.elim
/-! ### 11. a class whose __init__ has defaults by place -/
def MakeP (P : Program) (w : World) (K : PySem.W.Frag) (mg : Str → Option Value) (base : Heap) (k : Nat) (x : Str) (C : Addr) (dts : List T) (wf : WM) : Prop :=
  ∃ (f : Addr) (fd : FuncData) (ps : List Str) (ds : List Value) (dvs : List V), Mk K C f ∧ FnOk P w K mg base CX0 k f fd ps (spN K C wf) ∧ mg x = some (.ref C) ∧ Binds K fd ps ds ∧ Vals dvs ds ∧ ∀ A H, RepAll K A H dvs dts
def wMakeP (C : Addr) (dts : List T) (wf : WM) (a : WA) : WE := fun sl P => a sl fun xs => xs.all isArg = true ∧ wf (xs ++ dts.map Sl.val) fun ns ts => P (.val (.ins C ns ts))
theorem ge_makeP {k j : Nat} {C : Addr} {dts : List T} {wf : WM} {x : Str} {e : Expr} {es : List Expr} {a : WA} {p pos : Pos} (d : MakeP X.prog X.w X.K X.mg X.base k x C dts wf) (hr : Room j X.A) (hg : Gl X x) (ha : GA X (e :: es) a) (hkj : k + 1 ≤ j := by decide)
    (hdb : (x == ("__debug__" : Str)) = false := by decide) (he : starEach (e :: es) X.env = (false, eval e X.env) :: starEach es X.env := by rfl) (hpl : (backTo pos (starEach es X.env)).any (·.1) = false := by rfl) :
    GE X (.Call (.Name x p) (e :: es) [] pos) (wMakeP C dts wf a) := by
  obtain ⟨f, fd, ps, ds, dvs, M, F, hm, hb, hd, hr2⟩ := d
  refine ge_of (pe_make M F (hr.mono hkj) hg hm hb hd pass0 ha hdb he hpl) fun F' D A H σ sl P Q S hw q => ⟨F', D, A, sl, _, S, hw, fun vs H1 xs b1 oks hx => ?_⟩
  obtain ⟨e1, hp⟩ := hx
  have S1 := S.beh b1
  refine fun x dx hx hdx hne => ⟨D, A, x, dx, vs ++ dvs, H1, _, _, rfl, rfl, hx, hdx, hne, S1.dice, S1.dA, S1.liv, Paired.app (args_ok oks e1) ((hr2 A H1).args (D := D)), hp, fun H' dx' ns ws ts be g1 g2 _ g3 g4 g5 hP => ⟨rfl, ?_⟩⟩
  exact q (.ref x) H' (.val (.ins C ns ts)) (b1.trans be) (Rep.ins (fun z => S1.alive x z hx) g2 g1 g3 g4 (g5.sub fun a ha => List.mem_cons_of_mem _ (List.mem_cons_of_mem _ ha))) hP
end
/-! ### 12. x = C(..); x.f = e; ..; return x -/
section
variable {K : PySem.W.Frag} {F : Fx} {D A B : Avoid} {H H1 : Hp} {σ : L2.St} {sl : List Sl}
/-- new objects that may be changed -/
theorem Sta.growL (S : Sta K F D A H σ sl) (be : Beh D H H1) {ps : List Addr} (hp : ∀ p ∈ ps, H p = none) (h1 : ∀ p ∈ ps, H1 p ≠ none) : Sta K F D (ps ++ A) H1 σ sl := by
  have S1 := S.beh be
  have to : ∀ a o, a ∉ A → H a = some o → a ∉ ps ++ A ∧ H1 a = some o := fun a o n e => ⟨fun z => by
    rcases List.mem_append.mp z with z | z
    · rw [hp a z] at e; cases e
    · exact n z, be.ext a o (fun z => n (S.dA a z)) e⟩
  refine ⟨S1.dice, fun d hd => List.mem_append.mpr (.inr (S.dA d hd)), fun a ha => List.mem_append.mpr (.inr (S.sub a ha)), fun a ha => ?_, fun a ha => ?_, S.dbase, S.dsub, S1.keep, S1.tabs, S1.ext, ?_, S.dist, fun q hq => (S.gh q hq).to to, fun q hq => to _ _ (S.lk q hq).1 (S.lk q hq).2⟩
  · rcases List.mem_append.mp ha with z | z
    · exact h1 a z
    · exact S1.alive a z
  · rcases List.mem_append.mp ha with z | z
    · exact .inr (S.fresh0 (hp a z))
    · exact S.base a z
  · refine Paired.imp (fun o x q => ?_) S.slots
    rcases q with q | ⟨v, q1, q2⟩
    · exact .inl q
    · refine .inr ⟨v, q1, ?_⟩
      cases x with
      | any => trivial
      | val t => exact Rep.to to q2
      | dice =>
        obtain ⟨d, g1, g2, g3⟩ := q2
        exact ⟨d, g1, g2, (be.dice d g2).1 g3⟩
      | ob l ts =>
        obtain ⟨g1, g2, g3, g4, g5⟩ := q2
        exact ⟨g1, List.mem_append.mpr (.inr g2), g3, g4, g5.map (fun u q => be.ext _ _ g4 q) fun _ _ r => r.to to⟩
/-- some are changed no more -/
theorem Sta.thin (S : Sta K F D A H σ sl) (sub : ∀ a ∈ B, a ∈ A) (hD : ∀ d ∈ D, d ∈ B) (h0 : ∀ a ∈ F.A0, a ∈ B) (no : ∀ (j : Nat) (l : Addr) (ts : OwnT), sl[j]? = some (Sl.ob l ts) → l ∈ B) : Sta K F D B H σ sl := by
  refine ⟨S.dice, hD, h0, fun a ha => S.alive a (sub a ha), fun a ha => S.base a (sub a ha), S.dbase, S.dsub, S.keep, S.tabs, S.ext, ?_, S.dist, fun q hq => (S.gh q hq).sub sub, fun q hq => ⟨fun z => (S.lk q hq).1 (sub _ z), (S.lk q hq).2⟩⟩
  have all : ∀ (τ : L2.St) (ss : List Sl), Slots K D F.A0 A H τ ss → (∀ (j : Nat) (l : Addr) (ts : OwnT), ss[j]? = some (Sl.ob l ts) → l ∈ B) → Slots K D F.A0 B H τ ss := by
    intro τ ss r
    induction r with
    | nil => exact fun _ => .nil
    | @cons a b as bs q r ih =>
      intro no
      refine .cons ?_ (ih fun j l' ts e => no (j + 1) l' ts (by simpa using e))
      rcases q with q | ⟨v, q1, q2⟩
      · exact .inl q
      · refine .inr ⟨v, q1, ?_⟩
        cases b with
        | any => trivial
        | val t => exact Rep.sub sub q2
        | dice => exact q2
        | ob l' ts =>
          obtain ⟨g1, g2, g3, g4, g5⟩ := q2
          exact ⟨g1, no 0 l' ts rfl, g3, g4, g5.map (fun u q => q) fun _ _ r => r.sub sub⟩
  exact all σ sl S.slots no
end
section
variable {X : Cx} {K : PySem.W.Frag}
def bOf (K : PySem.W.Frag) (i : Nat) (C : Addr) (w : WN) : TS := fun E σ H => ∃ (F : Fx) (D A : Avoid) (sl : List Sl) (p : Addr) (ns : List Str) (ts : List T) (kr : Sl → Prop), Sta K F D A H σ sl ∧ SelfAt K F D A H σ i p C ns ts ∧ w (fun ns' ts' => kr (.val (.ins C ns' ts'))) sl ns ts ∧
  ∀ D' A' H' σ' sl' v x, Sta K F D' A' H' σ' sl' → SlOk K D' F.A0 A' H' v x → kr x → E.rt v H'
abbrev GB (X : Cx) (i : Nat) (C : Addr) (sts : List Stmt) (w : WN) : Prop := PSs X sts (bOf X.K i C w)
theorem gb_ret {i : Nat} {C : Addr} {y : Str} {p0 pos : Pos} (hN : X.N[i]? = some y := by rfl) (hv : Vis X.env.scope y := by first | exact Or.inl rfl | exact Or.inr (Or.inl rfl) | exact Or.inr (Or.inr rfl))
    (hd : (y == ("__debug__" : Str)) = false := by decide) (hcd : (y == ("__classdict__" : Str)) = false := by decide) : GB X i C [.Return (some (.Name y p0)) pos] wnNext := ⟨fun pins sh σ H E I ⟨F, D, A, sl, p, ns, ts, kr, S, s, hw, q⟩ => by
  obtain ⟨dx, vs, h1, h2, h3, h4, h5, h6, h7, h8, h9, h10⟩ := s.obj
  have no : ∀ (j : Nat) (l' : Addr) (us : OwnT), sl[j]? = some (Sl.ob l' us) → l' ≠ p ∧ l' ≠ dx ∧ l' ∈ A := fun j l' us e => by
    obtain ⟨v', _, ok'⟩ := S.get e (fun z => nomatch z)
    obtain ⟨_, g1, _, _, g4⟩ := ok'
    cases us with
    | lst _ =>
      obtain ⟨ws, g, _⟩ := g4
      exact ⟨ne_of g h7 (by intro z; cases z), ne_of g h8 (by intro z; cases z), g1⟩
    | dct _ _ =>
      obtain ⟨ws, g, _⟩ := g4
      exact ⟨ne_of g h7 (by intro z; cases z), ne_of g h8 (by intro z; cases z), g1⟩
  have mem : ∀ a, a ∈ A.filter (fun a => decide (a ≠ p ∧ a ≠ dx)) ↔ a ∈ A ∧ a ≠ p ∧ a ≠ dx := fun a => by rw [List.mem_filter, decide_eq_true_eq]
  have S2 : Sta X.K F D (A.filter fun a => decide (a ≠ p ∧ a ≠ dx)) H σ sl := S.thin (fun a ha => ((mem a).mp ha).1) (fun d hd => (mem d).mpr ⟨S.dA d hd, fun z => h3 (by rw [← z]; exact hd), fun z => h6 (by rw [← z]; exact hd)⟩) (fun a ha => (mem a).mpr ⟨S.sub a ha, fun z => h2 (by rw [← z]; exact ha), fun z => h5 (by rw [← z]; exact ha)⟩)
    fun j l' us e => (mem l').mpr ⟨(no j l' us e).2.2, (no j l' us e).1, (no j l' us e).2.1⟩
  refine (pss_one (ps_ret (pe_var hN hv hd hcd))).run pins sh σ H E I ⟨.ref p, s.slot, ?_⟩
  exact q D _ H σ sl (.ref p) (.val (.ins C ns ts)) S2 (show Rep X.K _ H (.ref p) (.ins C ns ts) from Rep.ins (fun z => ((mem p).mp z).2.1 rfl) (fun z => ((mem dx).mp z).2.2 rfl) h7 h8 h9 (h10.sub fun a ha => ((mem a).mp ha).1)) hw⟩
theorem gb_cons {i : Nat} {C : Addr} {st : Stmt} {rest : List Stmt} {a b : WN} (h : GN X i C st a) (h2 : GB X i C rest b) : GB X i C (st :: rest) (wnSeq a b) := ⟨fun pins sh σ H E I ⟨F, D, A, sl, p, ns, ts, kr, S, s, hw, q⟩ =>
  (pss_cons h h2).run pins sh σ H E I ⟨F, D, A, sl, p, ns, ts, _, S, s, hw, fun H' ns' ts' S' s' hb => ⟨F, D, A, sl, p, ns', ts', kr, S', s', hb, q⟩⟩⟩
/-- x = C(e, ..), then the block -/
def wMkB (i : Nat) (dts : List T) (wf : WM) (a : WA) (C : Addr) (b : WN) : WS := fun k sl => a sl fun xs => xs.all isArg = true ∧ wf (xs ++ dts.map Sl.val) fun ns ts => i < sl.length ∧ b (fun ns' ts' => k.rt (.val (.ins C ns' ts'))) (sl.set i .any) ns ts
theorem Slots.set_any {D A0 A : Avoid} {H : Hp} {σ : L2.St} {sl : List Sl} {i : Nat} {o : Option V} (h : Slots K D A0 A H σ sl) : Slots K D A0 A H (σ.set i o) (sl.set i .any) := Paired.setP (.inl rfl) i h
end
end Tr


set_option Elab.async false
set_option linter.all false
set_option maxRecDepth 100000
set_option maxHeartbeats 0
/-! x != y where the class has its own __eq__ and no __ne__ -/
namespace NeK
open PySem PySem.W PySem.Calls PyProof.Rows Builtin
section
variable {prog : Program} {w : World} {A : Around} {E : Value → Shared → Prop} {s : Shared} {K : PySem.W.Frag} {x C L f : Addr} {h₀ : Heap} {m : Str → Option Value} {ox : Obj} {od : Option Obj} {name : Str} {b tb : Value}
def NotBack (Q : Value → Shared → Prop) (v : Value) (s' : Shared) : Prop := ∃ r, v = .bool r ∧ Q (.bool (!r)) s'
end
end NeK

namespace Tr
open PySem PySem.Spec PyProof.Rows L2
variable [Tabl]
section
variable {X : Cx} {K : PySem.W.Frag}
structure NeC (K : PySem.W.Frag) (C : Addr) : Prop where
  ne : PySem.W.findIn K (.ref C) "__ne__" = some (some (.builtin "object.__ne__"))
  mr : PySem.W.mroIn K C (.type "object") = some true
def neB (x : Str) (K : PySem.W.Frag) : Bool := decide (PySem.W.findIn K (.ref (He.ga K x)) "__ne__" = some (some (.builtin "object.__ne__"))) && decide (PySem.W.mroIn K (He.ga K x) (.type "object") = some true)
def rOwnN (K : PySem.W.Frag) (C : Addr) (wf : WF) (E : XK) : R2 := fun x y H Q => (∃ a dx fs, x = .ref a ∧ H a = some (.ins C dx fs)) ∧ TyB K C y H ∧ spT K wf [x, y] H (fun v H' => ∃ b, v = .bl b ∧ Q (.bl (!b)) H') E
def wOwnNe (C : Addr) (wf : WF) (a b : WE) : WE := fun sl P => a sl fun x => b sl fun y => ∃ ns ts u, x = .val (.ins C ns ts) ∧ y = .val u ∧ tyOk C u ∧ wf [x, y] fun z => ∃ r, z = .val (.bl r) ∧ P (.val (.bl (!r)))
/-! ### len(x) by an own __len__ -/
def LenD (P : Program) (w : World) (K : PySem.W.Frag) (mg : Str → Option Value) (base : Heap) (k : Nat) (C : Addr) (wf : WF) : Prop :=
  ∃ (f : Addr) (fd : FuncData) (ps : List Str), FnOk P w K mg base CX0 k f fd ps (spT K wf) ∧ Meth K C "__len__" f ∧ Binds K fd ps []
def wLenI (C : Addr) (wf : WF) (a : WA) : WE := fun sl P => a sl fun xs => ∃ ns ts, xs = [.val (.ins C ns ts)] ∧ wf xs fun z => ∃ n : Nat, z = .val (.int n) ∧ n < 2 ^ 63 ∧ P z
end
end Tr


set_option Elab.async false
set_option linter.all false
set_option maxRecDepth 100000
set_option maxHeartbeats 0
/-! texts: ord, join, a sign in a text; x *= e; three at once; C() and what is set in it -/
namespace Tr
open PySem PySem.Spec PyProof.Rows L2
variable [Tabl]
section
variable {X : Cx} {K : PySem.W.Frag}
def ordT : List T → Option T
  | [.str x] => if x.length = 1 then some (.int (x.cps.getD 0 0 : Nat)) else none
  | _ => none
/-- a sign in a text -/
def inSg (neg : Bool) : T → T → Option T
  | .str x, .str z => (match x.cps.toList with
    | [c] => some (.bl (if neg = true then !decide (c ∈ z.cps.toList) else decide (c ∈ z.cps.toList)))
    | _ => none)
  | _, _ => none
theorem sg_of {x : Str} {c : Nat} (h : x.cps.toList = [c]) : x = ⟨#[c]⟩ := by
  cases x with
  | mk cps =>
    cases cps with
    | mk l =>
      cases h
      rfl
theorem sop_inS : SOp K rInS (inSg false) := fun A H u v x y z Q al ru rv e q => by
  cases x with
  | str i => cases y with
    | str j =>
      simp only [inSg] at e
      split at e
      · rename_i c hc
        cases e
        exact ⟨c, j, by rw [ru.str, sg_of hc], rv.str, q _ _ (Ext.refl H) (.bl _)⟩
      · cases e
    | _ => cases e
  | _ => cases e
def wJoinS (o e : WE) : WE := fun sl P => o sl fun x => ∃ a, x = .val (.str a) ∧ e sl fun y => ∃ t ts ys, y.tree = some t ∧ (t = .lst ts ∨ t = .tup ts) ∧ ts = ys.map T.str ∧ (ys.map (·.length)).sum + ys.length * a.length ≤ 16777216 ∧ P (.val (.str (Txt.join a ys)))
/-! ### x *= e -/
def ipM : TIp := fun x y H Q => ∃ i j, x = .int i ∧ y = .int j ∧ wide i j = true ∧ Q (.int (i * j)) H
def wAugM (i : Nat) (e : WE) : WS := fun k sl => ∃ a, nth sl i = .val (.int a) ∧ e sl fun x => ∃ b, x = .val (.int b) ∧ wide a b = true ∧ k.nx (sl.set i (.val (.int (a * b))))
/-- a, b, c = e, f, g -/
def wPar3 (i j l : Nat) (a : WA) : WS := fun k sl => a sl fun xs => ∃ x y z, xs = [x, y, z] ∧ storable x = true ∧ storable y = true ∧ storable z = true ∧ k.nx (((sl.set i x).set j y).set l z)
theorem gs_par3 (i j l : Nat) {x y z : Str} {a b c : Expr} {w : WA} {px py pz pt pos : Pos} {kt k2 pt2} (hc : X.calm = true) (hN : X.N.Nodup) (hi : X.N[i]? = some x) (hj : X.N[j]? = some y) (hl : X.N[l]? = some z) (hij : i ≠ j) (hil : i ≠ l) (hjl : j ≠ l)
    (hx : X.env.scope.names.lookup x = some .local) (hy : X.env.scope.names.lookup y = some .local) (hz : X.env.scope.names.lookup z = some .local) (ha : GA X [a, b, c] w)
    (hw : swappedStores [.Tuple [.Name x px, .Name y py, .Name z pz] kt pt] (.Tuple [a, b, c] k2 pt2) X.env = pure (some [x, y, z]))
    (hs : swapsWithSole [.Tuple [.Name x px, .Name y py, .Name z pz] kt pt] (.Tuple [a, b, c] k2 pt2) pos.line X.env = pure false := by rfl) :
    GS X (.Assign [.Tuple [.Name x px, .Name y py, .Name z pz] kt pt] (.Tuple [a, b, c] k2 pt2) pos) (wPar3 i j l w) := gs_of (ps_par3 hc hN hi hj hl hij hil hjl hx hy hz ha hw hs) fun E σ H h => by
  obtain ⟨F, D, A, sl, k, S, hw, q1, _⟩ := h
  refine ⟨F, D, A, sl, _, S, hw, fun vs H1 xs b1 oks hx => ?_⟩
  obtain ⟨x, y, z, rfl, h1, h2, h3, hp⟩ := hx
  cases oks with
  | cons ok r => cases r with
    | cons ok2 r => cases r with
      | cons ok3 r =>
        cases r
        exact ⟨_, _, _, rfl, q1 _ _ _ _ _ ((((S.beh b1).set ok (storable_own h1)).set ok2 (storable_own h2)).set ok3 (storable_own h3)) hp⟩
end
section
variable {P : Program} {w : World} {K : PySem.W.Frag} {mg : Str → Option Value} {base : Heap} {x qual : Str} {params : Arguments} {body : List Stmt} {scope : Scope} {dvs : List V} {kws : List (Str × V)} {f C : Addr} {fd : FuncData} {ps : List Str} {k : Nat} {wf : WF} {wm : WM} {m y : Str} {dts : List T}
theorem MethD.of (F : FunD K x qual params body scope [] kws f fd) (G : FnOk P w K mg base CX0 k f fd ps (spT K wf)) (M : Meth K C m f)
    (h : ∀ (kV doc pm : Value) (an : Option Addr) (cdv ct : Value) (us : List Value), us.length = ps.length → bindArgs (PySem.W.fnOf x qual params body scope .none kV doc pm an cdv ct) ⟨us, []⟩ = pure (ps.zip us)) : MethD P w K mg base k C m wf [] :=
  ⟨f, fd, ps, [], G, M, F.bindsN h, .nil⟩
theorem MethD.dfl (F : FunD K x qual params body scope dvs kws f fd) (G : FnOk P w K mg base CX0 k f fd ps (spT K wf)) (M : Meth K C m f) (n j : Nat) (hd : dvs ≠ []) (hn : n + (dvs.length - j) = ps.length)
    (h : ∀ (T : Addr) (kV doc pm : Value) (an : Option Addr) (cdv ct : Value) (us its : List Value), us.length = n → its.length = dvs.length →
      ∃ k, bindArgs (PySem.W.fnOf x qual params body scope (.ref T) kV doc pm an cdv ct) ⟨us, []⟩ = seqItems? (.ref T) >>= k ∧ k (some its.toArray) = pure (ps.zip (us ++ its.drop j))) : MethD P w K mg base k C m wf (dvs.drop j) := by
  obtain ⟨ds, h1, h2⟩ := F.binds1 n j hd hn h
  exact ⟨f, fd, ps, ds, G, M, h2, h1⟩
theorem MakeP.of (F : FunD K x qual params body scope [] kws f fd) (G : FnOk P w K mg base CX0 k f fd ps (spN K C wm)) (M : Mk K C f) (hm : mg y = some (.ref C))
    (h : ∀ (kV doc pm : Value) (an : Option Addr) (cdv ct : Value) (us : List Value), us.length = ps.length → bindArgs (PySem.W.fnOf x qual params body scope .none kV doc pm an cdv ct) ⟨us, []⟩ = pure (ps.zip us)) : MakeP P w K mg base k y C [] wm :=
  ⟨f, fd, ps, [], [], M, G, hm, F.bindsN h, .nil, fun _ _ => .nil⟩
theorem MakeP.dfl (F : FunD K x qual params body scope dvs kws f fd) (G : FnOk P w K mg base CX0 k f fd ps (spN K C wm)) (M : Mk K C f) (hm : mg y = some (.ref C)) (n j : Nat) (hd : dvs ≠ []) (hn : n + (dvs.length - j) = ps.length)
    (h : ∀ (T : Addr) (kV doc pm : Value) (an : Option Addr) (cdv ct : Value) (us its : List Value), us.length = n → its.length = dvs.length →
      ∃ k, bindArgs (PySem.W.fnOf x qual params body scope (.ref T) kV doc pm an cdv ct) ⟨us, []⟩ = seqItems? (.ref T) >>= k ∧ k (some its.toArray) = pure (ps.zip (us ++ its.drop j))) (hr : ∀ A H, RepAll K A H (dvs.drop j) dts) : MakeP P w K mg base k y C dts wm := by
  obtain ⟨ds, h1, h2⟩ := F.binds1 n j hd hn h
  exact ⟨f, fd, ps, ds, _, M, G, hm, h2, h1, hr⟩
end
/-- where the i-th default stands -/
def pdAt (f : Str × Option Str) (i : Nat) (K : PySem.W.Frag) : Addr := match K.lookup (He.fAd K f) with
  | some ⟨_, _, .func fd, _⟩ => (match fd.defaults with
    | .ref D => (match K.lookup D with
      | some ⟨_, _, .seq its _, _⟩ => (match its[i]? with
        | some (.ref a) => a
        | _ => 0)
      | _ => 0)
    | _ => 0)
  | _ => 0
end Tr


set_option Elab.async false
set_option linter.all false
set_option maxRecDepth 100000
set_option maxHeartbeats 0
/-! the module's own tuples and dicts of flat values -/
namespace Tr
open PySem PySem.Spec PyProof.Rows L2
variable [Tabl]
section
variable {X : Cx} {K : PySem.W.Frag}
def flT : T → Option V
  | .non => some .non
  | .bl b => some (.bl b)
  | .int i => some (.int i)
  | .str x => some (.str x)
  | _ => none
theorem flT_rep {A : Avoid} {H : Hp} {t : T} {v : V} (e : flT t = some v) : Rep K A H v t := by
  cases t <;> cases e
  · exact .non
  · exact .bl _
  · exact .int _
  · exact .str _
def flAll : List T → Option (List V)
  | [] => some []
  | t :: r => (flT t).bind fun v => (flAll r).map fun vs => v :: vs
def GloT (K : PySem.W.Frag) (mg : Str → Option Value) (x : Str) (t : T) : Prop := ∃ a, mg x = some (.ref a) ∧ ∀ A H, Rep K A H (.ref a) t
def tupV (x : Str) (ts : List T) (K : PySem.W.Frag) : Bool := match flAll ts, K.lookup (He.ga K x) with
  | some vs, some ⟨.type c, _, .seq its _, _⟩ => decide (c = "tuple") && (decide (its.size ≤ sizeLine) && He.relAll vs its.toList)
  | _, _ => false
/-- a dict of the module: text keys, flat values -/
def KD (K : PySem.W.Frag) (w : World) (mg : Str → Option Value) (x : Str) (kvs : List (Str × T)) : Prop := ∃ d, mg x = some (.ref d) ∧ ∀ z t, kvs.lookup z = some t → ∃ v, KDct K w d z v ∧ ∀ A H, Rep K A H v t
def valsT (x : Str) (kvs : List (Str × T)) (K : PySem.W.Frag) : Bool := kvs.all fun q => match flT q.2, PySem.W.nsIn K (He.ga K x) q.1 with
  | some v, some (some u) => He.relB v u
  | _, _ => false
theorem mem_lookup {z : Str} {t : T} : ∀ {kvs : List (Str × T)}, kvs.lookup z = some t → (z, t) ∈ kvs
  | [], e => by cases e
  | (k, u) :: r, e => by
    rw [List.lookup_cons] at e
    cases q : (z == k) with
    | true =>
      rw [q] at e
      cases e
      rw [eq_of_beq q]
      exact List.mem_cons_self
    | false =>
      rw [q] at e
      exact List.mem_cons_of_mem _ (mem_lookup e)
theorem kd_ok {w : World} {mg : Str → Option Value} {x : Str} {kvs : List (Str × T)} (hm : mg x = some (.ref (He.ga K x))) (hd : ∃ es n, KDict K w (He.ga K x) es n) (h : valsT x kvs K = true) : KD K w mg x kvs := by
  obtain ⟨es, n, D⟩ := hd
  refine ⟨_, hm, fun z t e => ?_⟩
  have h2 := List.all_eq_true.mp h (z, t) (mem_lookup e)
  cases e1 : flT t with
  | none => rw [show (z, t).2 = t from rfl, e1] at h2; cases h2
  | some v =>
    rw [show (z, t).2 = t from rfl, e1] at h2
    cases e2 : PySem.W.nsIn K (He.ga K x) z with
    | none => rw [show (z, t).1 = z from rfl, e2] at h2; cases h2
    | some r =>
      rw [show (z, t).1 = z from rfl, e2] at h2
      cases r with
      | none => cases h2
      | some u => exact ⟨v, ⟨es, n, u, D.at_, D.lit, e2, He.relB_ok h2⟩, fun A H => flT_rep e1⟩
def wKD (kvs : List (Str × T)) (b : WE) : WE := fun sl P => b sl fun y => ∃ z t, y = .val (.str z) ∧ kvs.lookup z = some t ∧ P (.val t)
theorem ge_kd {x : Str} {kvs : List (Str × T)} {b : Expr} {wb : WE} {p pos : Pos} (d : KD X.K X.w X.mg x kvs) (hg : Gl X x) (hb : GE X b wb) (hs : PlainIx b := by exact fun _ _ => rfl) (hdb : (x == ("__debug__" : Str)) = false := by decide) : GE X (.Subscript (.Name x p) b pos) (wKD kvs wb) := by
  obtain ⟨a, hm, hd⟩ := d
  exact ge_of (pe_ix ix_kdict (pe_glob (v := .ref a) hg hm rfl hdb) hb hs) fun F D A H σ sl P Q S hw q => ⟨F, D, A, sl, _, S, hw, fun u H1 y b1 ok hx => by
    obtain ⟨z, t, rfl, e, hp⟩ := hx
    have r1 : Rep X.K A H1 u (.str z) := ok
    cases r1
    obtain ⟨v, h1, h2⟩ := hd z t e
    exact ⟨a, z, v, rfl, rfl, h1, q v H1 (.val t) b1 (h2 A H1) hp⟩⟩
end
end Tr
/-! a head's facts, one Bool more, and tables with text keys -/
namespace HeC
open PySem PySem.Spec PyProof.Rows L2 He
abbrev AlC : Type := HeB.AlB × List (Option (List (Option (Str × Int))))
def obsC (n : Nat) (fa : List Fa) (fn : List DefD) (ex : PySem.W.Frag → Bool) (ts : List Tab) (g : Addr → Option Obj) : AlC := (HeB.obsB n fa fn ex g, ts.map fun t => dicW (frG g (asD g n)) (t.1 (frG g (asD g n))))
def hookC (n : Nat) (fa : List Fa) (fn : List DefD) (ex : PySem.W.Frag → Bool) (ts : List Tab) : PySem.W.Hook where
  α := AlC
  obs := fun s => obsC n fa fn ex ts s.heap.get?
  val := fun w => ((valD fn, true), ts.map fun t => some (keysIn w.params t.2))
  says := fun w h => ∃ K : PySem.W.Frag, K.In h ∧ SaysD fa fn K ∧ ex K = true ∧ ∀ t ∈ ts, ∃ es n, KDict K w (t.1 K) es n
  of := fun _ _ e => ⟨_, frG_in, congrArg (fun z : AlC => z.1.1) e, congrArg (fun z : AlC => z.1.2) e, fun t ht => by
    have e2 := congrArg (fun z : AlC => z.2) e
    obtain ⟨i, hi⟩ := List.mem_iff_getElem?.mp ht
    have e3 := congrArg (fun l => l[i]?) e2
    simp only [obsC, List.getElem?_map, hi, Option.map_some] at e3
    exact dicW_ok (Option.some.inj e3)⟩
  keeps := fun _ _ _ ⟨K, hK, c⟩ k => ⟨K, PySem.W.Frag.In.keeps hK k, c⟩
end HeC


set_option Elab.async false
set_option linter.all false
set_option maxRecDepth 100000
set_option maxHeartbeats 0
/-! sorted(set(xs)), xs.extend(ys), a text's beginning, str(None), list(range(a, b)) -/
namespace Tr
open PySem PySem.Spec PyProof.Rows L2
variable [Tabl]
section
variable {X : Cx} {K : PySem.W.Frag}
def wSrt (a : WE) : WE := fun sl P => a sl fun x => ∃ ns : List Int, x.tree = some (.lst (ns.map T.int)) ∧ ns.length < 64 ∧ ∀ ms : List Int, ms.Pairwise (· < ·) → (∀ k : Int, k ∈ ms ↔ k ∈ ns) → P (.val (.lst (ms.map T.int)))
/-! x.extend(e), x a list of one's own -/
def wExt (i : Nat) (e : WE) : WS := fun k sl => ∃ l ts, nth sl i = .own l ts ∧ e sl fun x => ∃ us, x = .val (.lst us) ∧ ts.length + us.length ≤ 1000000 ∧ k.nx (sl.set i (.own l (ts ++ us)))
/-! a text's beginning -/
def wSw (a b : WE) : WE := fun sl P => a sl fun x => ∃ z, x = .val (.str z) ∧ b sl fun y => ∃ u, y = .val (.str u) ∧ P (.val (.bl (Txt.startswith z u)))
/-! str(x), x a whole number or None -/
def strNT : List T → Option T
  | [.int i] => if sml i = true then some (.str (toString i)) else none
  | [.non] => some (.str "None")
  | _ => none
def tFmtN (te : TE) : TE := fun σ H Q => te σ H fun x H1 => (∃ y : Str, x = .str y ∧ y.length ≤ sizeLine ∧ Q (.str y) H1) ∨ (∃ i : Int, x = .int i ∧ i.natAbs.log2 < 1920 ∧ Q (.str (toString i)) H1) ∨ x = .non ∧ Q (.str "None") H1
def wFmtN (a : WE) : WE := fun sl P => a sl fun x => (∃ y : Str, x = .val (.str y) ∧ few y.length = true ∧ P (.val (.str y))) ∨ (∃ i : Int, x = .val (.int i) ∧ i.natAbs.log2 < 1920 ∧ P (.val (.str (toString i)))) ∨ x = .val .non ∧ P (.val (.str "None"))
/-! list(range(a, b)) -/
def wLstRg2 (a b : WE) : WL := fun sl P => a sl fun x => b sl fun y => ∃ m n : Int, x = .val (.int m) ∧ y = .val (.int n) ∧ 0 ≤ m ∧ m ≤ 100000 ∧ 0 ≤ n ∧ n ≤ 100000 ∧ P (upTo m (n - m).toNat)
end
end Tr


set_option Elab.async false
set_option linter.all false
set_option maxRecDepth 100000
set_option maxHeartbeats 0
/-! repr of data: it asks that no other repr runs around; so defs that use it keep their promise where no guard stands around -/
namespace L2
open PySem PySem.Spec PyProof.Rows
def NoG (A : Around) : Prop := A.guards = some []
theorem NoG.deeper {A : Around} (g : NoG A) (env : Env) : NoG (A.deeper env) := g
/-- what a def promises where no guard stands around -/
structure FnG (P : Program) (w : World) (K : PySem.W.Frag) (mg : Str → Option Value) (base : Heap) (CX : CXT) (k : Nat) (f : Addr) (fd : FuncData) (ps : List Str) (sp : Sp) : Prop where
  len : ∀ vs H Q E, sp vs H Q E → vs.length = ps.length
  go : ∀ (A : Around) (outer : List Env) (s : Shared) (H : Hp) (args : Args) (us : List Value) (vs : List V) (Q : VK) (E : XK), NoG A → Room k A → Env0 P w K mg base A outer s H → BindsTo s fd args (ps.zip us) →
    Vals vs us → sp vs H Q E → codeAny (model P w) A (.call (.ref f) args) (CR CX outer P w H s Q E) s
section
variable {P : Program} {w : World} {K : PySem.W.Frag} {mg : Str → Option Value} {base : Heap} {CX : CXT}
theorem FnG.mono {j k : Nat} {f : Addr} {fd : FuncData} {ps : List Str} {sp : Sp} (F : FnG P w K mg base CX j f fd ps sp) (h : j ≤ k) : FnG P w K mg base CX k f fd ps sp :=
  ⟨F.len, fun A outer s H args us vs Q E g hr => F.go A outer s H args us vs Q E g (hr.mono h)⟩
theorem FnG.imp {k : Nat} {f : Addr} {fd : FuncData} {ps : List Str} {sp sp' : Sp} (F : FnG P w K mg base CX k f fd ps sp) (h : ∀ vs H Q E, sp' vs H Q E → sp vs H Q E) : FnG P w K mg base CX k f fd ps sp' :=
  ⟨fun vs H Q E q => F.len vs H Q E (h _ _ _ _ q), fun A outer s H args us vs Q E g hr he hb hv hs => F.go A outer s H args us vs Q E g hr he hb hv (h _ _ _ _ hs)⟩
/-- from the body -/
theorem FunD.okGc {x qual : Str} {params : Arguments} {body : List Stmt} {scope : Scope} {dvs : List V} {kws : List (Str × V)} {f : Addr} {fd : FuncData} {N ps : List Str} {k : Nat} {sp : Sp}
    (F : FunD K x qual params body scope dvs kws f fd) (S : FnScope N ps scope) (len : ∀ vs H Q E, sp vs H Q E → vs.length = ps.length)
    (hbody : ∀ (c : Addr) (A : Around) (outer : List Env) (s : Shared) (H : Hp) (vs : List V) (Q : VK) (E : XK), (∃ oc od osl dV kV doc pm an ct, K.lookup f = some ⟨oc, od, .func (PySem.W.fnOf x qual params body scope dV kV doc pm an (.ref c) ct), osl⟩) → NoG A → Room k (A.deeper (envOfC qual scope s.heap.objs.size f (.ref c))) → sp vs H Q E →
      ∃ t, PSs (cxOf CX P w K mg base N qual scope f (.ref c) A outer s H E) body t ∧ t { nx := fun _ H' => Q .non H', rt := Q } (start N vs) H) : FnG P w K mg base CX (k + 1) f fd ps sp := by
  obtain ⟨oc, od, dV, kV, doc, pm, an, cdv, ct, osl, rfl, lk, hcd, _, _⟩ := F.ex
  obtain ⟨c, rfl⟩ : ∃ c, cdv = .ref c := by
    cases cdv with
    | ref c => exact ⟨c, rfl⟩
    | _ => cases hcd
  constructor
  · exact len
  intro A outer s H args us vs Q E g room env bnd rv want
  have many := len _ _ _ _ want
  have here : ∀ b o, base.get? b = some o → s.heap.get? b = some o := fun b o e => (env.bs b o e).1
  have inK : K.In s.heap := env.mod.kin.keeps here
  have noLim : s.heap.NoLimit := env.mod.nolimit.keeps here
  have kinds : ∀ y ∈ ps.zip us, scope.names.lookup y.1 = some .local ∨ (scope.names.lookup y.1 = some .cell ∧ ((cellsFrom (s.heap.objs.size + 1) scope.names []).lookup y.1).isSome = true) := by
    intro y hy
    have mem : y.1 ∈ ps := (List.of_mem_zip (a := y.1) (b := y.2) hy).1
    cases S.par y.1 mem with
    | inl q => exact Or.inl q
    | inr q => exact Or.inr ⟨q, PySem.W.cellsFrom_some _ _ _ (Or.inl q)⟩
  apply codeAny_call_function room.depth (inK _ _ lk) rfl S.co S.gen rfl (PySem.W.codeRec_of inK hcd)
  apply bnd
  apply wpAny_newFunctionEnv_cells S.kind kinds
  intro env2 e2 s1 made
  subst e2
  refine ⟨noLim.keeps made.toInCall.keep, ?_⟩
  apply codeAny_func
  obtain ⟨t, walk, holds⟩ := hbody c A outer s H vs Q E ⟨_, _, _, _, _, _, _, _, _, lk⟩ g (room.deeper _) want
  have J := inv_start (E := E) (CX := CX) S room.hd env many rv made
  apply wpAny_mono (walk.run [] s1 (start N vs) H _ J holds)
  · intro fl s2 hs
    match fl, hs with
    | .ret u, ⟨v, σ2, H2, J2, r2, q⟩ => exact ⟨v, H2, J2.os, J2.bare, J2.base, J2.hok, r2, q⟩
    | .next, ⟨σ2, H2, J2, q⟩ => exact ⟨V.non, H2, J2.os, J2.bare, J2.base, J2.hok, rfl, q⟩
    | .brk, ⟨_, _, _, q⟩ => exact q.elim
    | .cont, ⟨_, _, _, q⟩ => exact q.elim
  · intro e s2 hs
    exact hs
end
section
variable {X : Cx} {CX : CXT} {k : Nat} {f : Addr} {fd : FuncData} {ps : List Str} {sp : Sp} {dvs : List V} {ds : List Value} {E : XK} {x : Str} {p pos : Pos} {e : Expr} {es : List Expr} {t : TA}
theorem FnG.runs {pins : List (Addr × Obj)} {σ : St} {H : Hp} {s : Shared} {Q : VK} {us : List Value} {vs : List V} (F : FnG X.prog X.w X.K X.mg X.base CX k f fd ps sp) (g : NoG X.A) (room : Room k X.A)
    (bnd : Binds X.K fd ps ds) (rd : Vals dvs ds) (pass : Passes CX X E) (I : Inv X pins σ H s) (r : Vals vs us) (want : sp (vs ++ dvs) H Q E) : wpAny (model X.prog X.w) X.A (call (.ref f) us) (EP X pins σ Q) X.xe s := by
  have all := r.append rd
  have many := F.len _ _ _ _ want
  rw [all.length] at many
  apply wpAny_call
  apply codeAny_mono (F.go X.A X.stack s H ⟨us, []⟩ _ _ Q E g room I.env0 (bnd s us I.kIn many) all want)
  intro res s2 hres
  match res, hres with
  | .error er, hres => exact pass pins σ H s er s2 I hres
  | .ok (.ret u), hres => exact I.after hres
  | .ok .next, hres => exact False.elim hres
  | .ok .brk, hres => exact False.elim hres
  | .ok .cont, hres => exact False.elim hres
theorem pe_callG (F : FnG X.prog X.w X.K X.mg X.base CX k f fd ps sp) (g : NoG X.A) (room : Room k X.A) (hg : Gl X x) (hm : X.mg x = some (.ref f)) (kp : PySem.W.keepIn X.K (.ref f) = true) (bnd : Binds X.K fd ps ds) (rd : Vals dvs ds) (pass : Passes CX X E)
    (ha : PA X (e :: es) t) (nd : (x == ("__debug__" : Str)) = false) (st : starEach (e :: es) X.env = (false, eval e X.env) :: starEach es X.env) (pl : (backTo pos (starEach es X.env)).any (·.1) = false) :
    PE X (.Call (.Name x p) (e :: es) [] pos) (tCall sp dvs E t) := by
  constructor
  intro pins s σ H Q I want
  apply wpAny_Call_Name_kw
  refine ld_glob I hg hm ?_ nd
  refine PySem.W.callWith_K (h₀ := X.base) I.ok.mod.kin kp ?_ st pl
  refine thn (ha.run pos pins s σ H _ I want) ?_
  rintro us s1 ⟨vs, H1, I1, r, q⟩
  exact ⟨I1.kIn, F.runs g room bnd rd pass I1 r q⟩
end
end L2
namespace L2
open PySem PySem.Spec PyProof.Rows
/-! ### the end of such a law -/
section
variable {P : Program} {w : World} {K : PySem.W.Frag} {mg mb : Str → Option Value} {CX : CXT} {k : Nat} {fa a : Addr} {fd : FuncData} {x : Str} {sp : Sp} {S : Shared} {vs : List Value} {ns : List Int}
/-- the wanted end -/
def Yes (S : Shared) : Result → Shared → Prop := fun r s' => r = .ok (.ret (.bool true)) ∧ OldK S.heap s'.heap ∧ s'.os = S.os ∧ AllBare s'.gens
/-- nothing but the script is tracked in H -/
structure OnlyAt (P : Program) (w : World) (K : PySem.W.Frag) (S : Shared) (a : Addr) (H : Hp) : Prop where
  only : Only H
  ok : HOk P w H S.heap
  at_ : ∀ b, H b ≠ none → b = a
  out : H a ≠ none → K.lookup a = none
theorem OnlyAt.dict {H : Hp} (o : OnlyAt P w K S a H) (ha : S.heap.get? a = some { cls := .type "list", data := .seq vs.toArray }) {b : Addr} {ob : Obj} {es : Array DictEntry} {ep : Nat} (e : S.heap.get? b = some ob) (d : ob.data = .dict es ep) : H b = none := by
  refine Classical.byContradiction fun z => ?_
  obtain rfl := o.at_ b z
  rw [ha] at e
  obtain rfl := Option.some.inj e
  exact nomatch d
end
end L2
namespace L2
open PySem PySem.Spec PyProof.Rows
/-! ### repr -/
def rReprD (K : PySem.W.Frag) : List V → Hp → VK → Prop := fun xs H Q => ∃ x d, xs = [x] ∧ Dp K H x d ∧ d.showable = true ∧ d.depth ≤ 60 ∧ d.shown.length ≤ sizeLine ∧ Q (.str d.shown) H
mutual
theorem Dp.noDict {K : PySem.W.Frag} {H : Hp} : ∀ (d : PyData) (v : V), Dp K H v d → d.hasDict = false
  | .none, _, _ => rfl
  | .bool _, _, _ => rfl
  | .int _, _, _ => rfl
  | .str _, _, _ => rfl
  | .list ds, _, h => by
    cases h with
    | lst _ ha => exact Dp.noDicts ds _ ha
  | .tuple ds, _, h => by
    cases h with
    | tup _ ha => exact Dp.noDicts ds _ ha
  | .dict _, _, h => by cases h
theorem Dp.noDicts {K : PySem.W.Frag} {H : Hp} : ∀ (ds : List PyData) (vs : List V), DpAll K H vs ds → PyData.hasDictAll ds = false
  | [], _, _ => rfl
  | d :: ds, _, h => by
    cases h with
    | cons h1 h2 =>
      have e1 := Dp.noDict d _ h1
      have e2 := Dp.noDicts ds _ h2
      show (d.hasDict || PyData.hasDictAll ds) = false
      rw [e1, e2]
      rfl
end
section
variable {X : Cx}
theorem call_reprD (g : NoG X.A) (hu : X.A.units + 64 < cLine) : CallR X (.builtin "repr") (rReprD X.K) := by
  intro pins s σ H xs us Q I r h
  obtain ⟨x, d, rfl, hd, hs, hdep, hz, q⟩ := h
  obtain ⟨u, rfl, ru⟩ := vals1 r
  obtain ⟨as, rd⟩ := Dp.reads I d x u hd ru
  have nd := Dp.noDict d x hd
  cases rd with
  | none => exact PySem.P.repr_of_none ⟨.str _, H, I.tok _, ⟨_, rfl⟩, q⟩
  | bool b => exact PySem.P.repr_of_bool ⟨.str _, H, I.tok _, ⟨_, rfl⟩, q⟩
  | int i t => exact PySem.P.repr_of_int (of_decide_eq_true hs) ⟨.str _, H, I.tok _, ⟨_, rfl⟩, q⟩
  | str y t => exact PySem.P.repr_of_str ⟨.str _, H, I.tok _, ⟨_, rfl⟩, q⟩ hz
  | list h1 h2 h3 h4 =>
    exact repr_of_reads' (.list h1 h2 h3 h4) hs (PyData.noDict_hsm nd) g (by omega) (fun _ _ e => e) (fun h' v tk hk => ⟨.str _, H, I.kept hk, ⟨_, rfl⟩, q⟩) hz
  | tuple h1 h2 h3 h4 =>
    exact repr_of_reads' (.tuple h1 h2 h3 h4) hs (PyData.noDict_hsm nd) g (by omega) (fun _ _ e => e) (fun h' v tk hk => ⟨.str _, H, I.kept hk, ⟨_, rfl⟩, q⟩) hz
  | dict h1 h2 h3 h4 h5 => exact nomatch nd
end
end L2
namespace Tr
open PySem PySem.Spec PyProof.Rows L2
variable [Tabl]
section
variable {X : Cx} {K : PySem.W.Frag}
def reprD : List T → Option T
  | [t] => (match dat t with
    | some d => if (d.showable && decide (d.depth ≤ 60) && decide (d.shown.length ≤ sizeLine)) = true then some (.str d.shown) else none
    | none => none)
  | _ => none
theorem sc_reprD : SCall K (rReprD K) reprD := fun A H vs ts z Q al r e q => by
  match ts, r, e with
  | [t], r, e =>
    obtain ⟨v, rfl, rv⟩ := one_of r
    simp only [reprD] at e
    cases ed : dat t with
    | none => rw [ed] at e; cases e
    | some d =>
      rw [ed] at e
      simp only at e
      split at e
      · rename_i c
        rw [Bool.and_eq_true, Bool.and_eq_true, decide_eq_true_eq, decide_eq_true_eq] at c
        cases e
        exact ⟨v, d, rfl, datS_ok rv ed, c.1.1, c.1.2, c.2, q _ _ (Ext.refl H) (.str _)⟩
      · cases e
theorem reprD_of {t : T} {d : PyData} (e : dat t = some d) (h1 : d.showable = true) (h2 : d.depth ≤ 60) (h3 : d.shown.length ≤ sizeLine) : reprD [t] = some (.str d.shown) := by
  simp only [reprD, e, h1, decide_eq_true h2, decide_eq_true h3, Bool.and_self, if_true]
/-- a def that uses repr of data stands under x -/
def CallG (P : Program) (w : World) (K : PySem.W.Frag) (mg : Str → Option Value) (base : Heap) (k : Nat) (x : Str) (wf : WF) (dvs : List V) : Prop :=
  ∃ (f : Addr) (fd : FuncData) (ps : List Str) (ds : List Value), FnG P w K mg base CX0 k f fd ps (spT K wf) ∧ mg x = some (.ref f) ∧ PySem.W.keepIn K (.ref f) = true ∧ Binds K fd ps ds ∧ Vals dvs ds
end
section
variable {P : Program} {w : World} {K : PySem.W.Frag} {mg : Str → Option Value} {base : Heap}
variable {x qual : Str} {params : Arguments} {body : List Stmt} {scope : Scope} {dvs : List V} {kws : List (Str × V)} {f : Addr} {fd : FuncData} {ps : List Str} {k : Nat} {wf : WF}
theorem CallG.of (F : FunD K x qual params body scope [] kws f fd) (G : FnG P w K mg base CX0 k f fd ps (spT K wf)) (hm : mg x = some (.ref f))
    (h : ∀ (kV doc pm : Value) (an : Option Addr) (cdv ct : Value) (us : List Value), us.length = ps.length → bindArgs (PySem.W.fnOf x qual params body scope .none kV doc pm an cdv ct) ⟨us, []⟩ = pure (ps.zip us)) : CallG P w K mg base k x wf [] :=
  ⟨f, fd, ps, [], G, hm, F.kp, F.bindsN h, .nil⟩
end
end Tr


set_option Elab.async false
set_option linter.all false
set_option maxRecDepth 100000
set_option maxHeartbeats 0
/-! a, b = a list of that length -/
namespace Tr
open PySem PySem.Spec PyProof.Rows L2
variable [Tabl]
section
variable {X : Cx} {pos : Pos}
def gTupL (K : PySem.W.Frag) (n : Nat) (t : TGs) : TG := fun v σ H Q => ∃ a xs, v = .ref a ∧ SqL K H a xs ∧ xs.length = n ∧ t xs σ H Q
def wAsgL (e : WE) (is : List Nat) : WS := fun k sl => e sl fun x => ∃ ts, x = .val (.lst ts) ∧ ts.length = is.length ∧ k.nx (setAll sl is ts)
end
end Tr


set_option Elab.async false
set_option linter.all false
set_option maxRecDepth 100000
set_option maxHeartbeats 0
namespace Tr
open PySem PySem.Spec PyProof.Rows L2
variable [Tabl]
/-! ### 16. readings reckoned -/
section
variable {sl r : List Sl} {x y z : Sl} {i j : Nat} {P : Sl → Prop} {a b c : WE} {t u : T} {k : Ks}
@[simp] theorem nth_0 : nth (x :: r) 0 = x := rfl
@[simp] theorem nth_1 : nth (x :: y :: r) 1 = y := rfl
@[simp] theorem nth_s : nth (x :: r) (i + 1) = nth r i := rfl
@[simp] theorem tree_val : (Sl.val t).tree = some t := rfl
@[simp] theorem tree_own {l : Addr} {ts : List T} : (Sl.own l ts).tree = some (.lst ts) := rfl
@[simp] theorem wVar_e : wVar i sl P = (nth sl i ≠ .any ∧ P (nth sl i)) := rfl
@[simp] theorem wC_e : wC t sl P = P (.val t) := rfl
@[simp] theorem wOp_e {f : T → T → Option T} : wOp f a b sl P = a sl fun x => b sl fun y => ∃ s t z, x.tree = some s ∧ y.tree = some t ∧ f s t = some z ∧ P (.val z) := rfl
@[simp] theorem wB_e {Q : Bool → Prop} : wB a sl Q = a sl fun x => ∃ b, x = .val (.bl b) ∧ Q b := rfl
@[simp] theorem wChain_e {f g : T → T → Option T} : wChain f g a b c sl P = a sl fun x => b sl fun y => ∃ s t k, x.tree = some s ∧ y.tree = some t ∧ f s t = some (.bl k) ∧ (if k = true then c sl fun z => ∃ u r, z.tree = some u ∧ g t u = some r ∧ P (.val r) else P (.val (.bl false))) := rfl
@[simp] theorem wIsN_e {neg : Bool} : wIsN neg a sl P = a sl fun x => ∃ b, isN x = some b ∧ P (.val (.bl (if neg then !b else b))) := rfl
@[simp] theorem wAnd_e {t u : WT} {Q : Bool → Prop} : wAnd t u sl Q = t sl fun b => if b = true then u sl Q else Q false := rfl
@[simp] theorem wOr_e {t u : WT} {Q : Bool → Prop} : wOr t u sl Q = t sl fun b => if b = true then Q true else u sl Q := rfl
@[simp] theorem wNot_e {t : WT} {Q : Bool → Prop} : wNot t sl Q = t sl fun b => Q (!b) := rfl
@[simp] theorem wAndV_e : wAndV a b sl P = a sl fun x => ∃ c, x = .val (.bl c) ∧ if c = true then b sl P else P (.val (.bl false)) := rfl
@[simp] theorem wOrV_e : wOrV a b sl P = a sl fun x => ∃ c, x = .val (.bl c) ∧ if c = true then P (.val (.bl true)) else b sl P := rfl
@[simp] theorem wNotV_e : wNotV a sl P = a sl fun x => ∃ c, x = .val (.bl c) ∧ P (.val (.bl (!c))) := rfl
@[simp] theorem wIfE_e {c : WT} : wIfE c a b sl P = c sl fun k => if k = true then a sl P else b sl P := rfl
@[simp] theorem wTru_e {Q : Bool → Prop} : wTru a sl Q = a sl fun x => ∃ t b, x.tree = some t ∧ truT t = some b ∧ Q b := rfl
@[simp] theorem waNil_e {Q : List Sl → Prop} : waNil sl Q = Q [] := rfl
@[simp] theorem waCons_e {r : WA} {Q : List Sl → Prop} : waCons a r sl Q = a sl fun x => r sl fun xs => Q (x :: xs) := rfl
@[simp] theorem wTup_e {r : WA} : wTup r sl P = r sl fun xs => ∃ ts, trees xs = some ts ∧ ts.length ≤ 1000000 ∧ P (.val (.tup ts)) := rfl
@[simp] theorem trees_nil : trees [] = some [] := rfl
@[simp] theorem trees_cons {xs : List Sl} : trees (.val t :: xs) = (trees xs).map fun ts => t :: ts := by
  show (match trees xs with
    | some ts => some (t :: ts)
    | none => none) = _
  cases trees xs <;> rfl
@[simp] theorem treesR_nil : treesR [] = some [] := rfl
@[simp] theorem treesR_cons {xs : List Sl} : treesR (.val t :: xs) = (treesR xs).map fun ts => t :: ts := by
  show (match some t, treesR xs with
    | some t, some ts => some (t :: ts)
    | _, _ => none) = _
  cases treesR xs <;> rfl
@[simp] theorem treesR_own {l : Addr} {us : List T} {xs : List Sl} : treesR (.own l us :: xs) = (treesR xs).map fun ts => .lst us :: ts := by
  show (match some (T.lst us), treesR xs with
    | some t, some ts => some (t :: ts)
    | _, _ => none) = _
  cases treesR xs <;> rfl
@[simp] theorem wL_e {w : WL} : wL w sl P = w sl fun ts => P (.val (.lst ts)) := rfl
@[simp] theorem wLst_e {r : WA} {Q : List T → Prop} : wLst r sl Q = r sl fun xs => ∃ ts, trees xs = some ts ∧ ts.length ≤ 1000000 ∧ Q ts := rfl
@[simp] theorem wLstOf_e {r : WA} {Q : List T → Prop} : wLstOf r sl Q = r sl fun xs => ∃ x t ts, xs = [x] ∧ x.tree = some t ∧ t.seq = some ts ∧ Q ts := rfl
@[simp] theorem wCatL_e {Q : List T → Prop} : wCatL a b sl Q = a sl fun x => b sl fun y => ∃ xs ys, x.tree = some (.lst xs) ∧ y.tree = some (.lst ys) ∧ few (xs.length + ys.length) = true ∧ Q (xs ++ ys) := rfl
@[simp] theorem wDct0_e : wDct0 sl P = P (.val (.dct [] [])) := rfl
@[simp] theorem woNone_e {Q : Option Int → Prop} : woNone sl Q = Q none := rfl
@[simp] theorem woSome_e {Q : Option Int → Prop} : woSome a sl Q = a sl fun x => ∃ i, x = .val (.int i) ∧ Q (some i) := rfl
@[simp] theorem wSl_e {l h : WO} : wSl a l h sl P = a sl fun x => l sl fun lo => h sl fun hi => ∃ s z, x.tree = some s ∧ slT s lo hi = some z ∧ P (.val z) := rfl
@[simp] theorem wCB_e {f : List T → Option T} {r : WA} : wCB f r sl P = r sl fun xs => ∃ ts z, treesR xs = some ts ∧ f ts = some z ∧ P (.val z) := rfl
@[simp] theorem wUn_e {f : T → Option T} : wUn f a sl P = a sl fun x => ∃ s z, x.tree = some s ∧ f s = some z ∧ P (.val z) := rfl
@[simp] theorem wMaxL_e {w : WA} : wMaxL w sl P = w sl fun xs => ∃ (x : Sl) (ns : List Int), xs = [x] ∧ x.tree = some (.lst (ns.map T.int)) ∧ 0 < ns.length ∧ ∀ m, m ∈ ns → (∀ y, y ∈ ns → y ≤ m) → P (.val (.int m)) := rfl
@[simp] theorem wCall_e {wf : WF} {dts : List T} {w : WA} : wCall wf dts w sl P = w sl fun xs => xs.all isArg = true ∧ wf (xs ++ dts.map Sl.val) P := rfl
@[simp] theorem isArg_val : isArg (.val t) = true := rfl
@[simp] theorem isArg_dice : isArg .dice = true := rfl
@[simp] theorem wLc_e {wi : WI} {g : Tg} {wt : WT} {we : WE} {vs : List Nat} {Q : List T → Prop} : wLc wi g wt we vs sl Q = wi sl fun ts => ts.length ≤ 100000 ∧ wColl g wt we (wipeS sl vs) Q ts [] := rfl
@[simp] theorem wipeS_nil : wipeS sl [] = sl := rfl
@[simp] theorem wipeS_cons {v : Nat} {vs : List Nat} : wipeS sl (v :: vs) = (wipeS sl vs).set v .any := rfl
@[simp] theorem wYes_e {Q : Bool → Prop} : wYes sl Q = Q true := rfl
@[simp] theorem wiSeq_e {Q : List T → Prop} : wiSeq a sl Q = a sl fun x => ∃ t ts, x = .val t ∧ t.seq = some ts ∧ Q ts := rfl
@[simp] theorem wiRng1_e {w : WA} {Q : List T → Prop} : wiRng1 w sl Q = w sl fun xs => ∃ n : Int, xs = [.val (.int n)] ∧ -(2 ^ 62) ≤ n ∧ n < 2 ^ 62 ∧ Q (upTo 0 n.toNat) := rfl
@[simp] theorem wiZip_e {w : WA} {Q : List T → Prop} : wiZip w sl Q = w sl fun xs => ∃ ts us, xs = [.val (.lst ts), .val (.tup us)] ∧ Q (List.zipWith (fun x y => T.tup [x, y]) ts us) := rfl
@[simp] theorem wNext_e : wNext k sl = k.nx sl := rfl
@[simp] theorem wSeq_e {v w : WS} : wSeq v w k sl = v { k with nx := fun s => w k s } sl := rfl
@[simp] theorem wAsg_e : wAsg a i k sl = a sl fun x => storable x = true ∧ k.nx (sl.set i x) := rfl
@[simp] theorem storable_val : storable (.val t) = true := rfl
@[simp] theorem storable_dice : storable .dice = true := rfl
@[simp] theorem wOwn_e {w : WL} : wOwn w i k sl = w sl fun ts => ∀ l, k.nx (sl.set i (.own l ts)) := rfl
@[simp] theorem wApp_e : wApp i a k sl = ∃ l ts, nth sl i = .own l ts ∧ ts.length < 1000000 ∧ a sl fun x => ∃ t, x = .val t ∧ k.nx (sl.set i (.own l (ts ++ [t]))) := rfl
@[simp] theorem wFrz_e {w : WS} : wFrz i w k sl = ∃ l ts, nth sl i = .own l ts ∧ w k (sl.set i (.val (.lst ts))) := rfl
@[simp] theorem wIf_e {c : WT} {v w : WS} : wIf c v w k sl = c sl fun b => if b = true then v k sl else w k sl := rfl
@[simp] theorem wRet_e : wRet a k sl = a sl k.rt := rfl
@[simp] theorem wRetN_e : wRetN k sl = k.rt (.val .non) := rfl
@[simp] theorem wNever_e : wNever k sl = False := rfl
@[simp] theorem wDrop_e : wDrop a k sl = a sl fun _ => k.nx sl := rfl
@[simp] theorem wAsgT_e {is : List Nat} : wAsgT a is k sl = a sl fun x => ∃ t sl', x = .val t ∧ (Tg.names is).st t sl = some sl' ∧ k.nx sl' := rfl
@[simp] theorem wPar_e {w : WA} : wPar i j w k sl = w sl fun xs => ∃ x y, xs = [x, y] ∧ storable x = true ∧ storable y = true ∧ k.nx ((sl.set i x).set j y) := rfl
@[simp] theorem wFor_e {wi : WI} {g : Tg} {w : WS} : wFor wi g w k sl = wi sl fun ts => wForL g w k ts sl := rfl
@[simp] theorem wDice_e {pre : List Sl → Prop} {w : WA} : wDice pre w i k sl = w sl fun xs => xs.all isArg = true ∧ pre xs ∧ k.nx (sl.set i .dice) := rfl
@[simp] theorem wDix_e : wDix i sl P = (nth sl i = .dice ∧ ∀ n : Int, P (.val (.int n))) := rfl
@[simp] theorem wDst_e : wDst i a k sl = (nth sl i = .dice ∧ a sl fun x => ∃ n : Int, x = .val (.int n) ∧ k.nx sl) := rfl
@[simp] theorem retK_val : retK P (.val t) = P (.val t) := rfl
@[simp] theorem retK_own {l : Addr} {ts : List T} : retK P (.own l ts) = P (.val (.lst ts)) := rfl
@[simp] theorem isN_val_non : isN (.val .non) = some true := rfl
@[simp] theorem isi_non {n : String} : isiT [.non, .ty n] = (kitB "NoneType" n).map fun b => .bl b := rfl
@[simp] theorem isi_bl {b : Bool} {n : String} : isiT [.bl b, .ty n] = (kitB "bool" n).map fun b => .bl b := rfl
@[simp] theorem isN_val_bl {b : Bool} : isN (.val (.bl b)) = some false := rfl
@[simp] theorem isi_int {i : Int} {n : String} : isiT [.int i, .ty n] = (kitB "int" n).map fun b => .bl b := rfl
@[simp] theorem isN_val_int {i : Int} : isN (.val (.int i)) = some false := rfl
@[simp] theorem isi_str {x : Str} {n : String} : isiT [.str x, .ty n] = (kitB "str" n).map fun b => .bl b := rfl
@[simp] theorem isN_val_str {x : Str} : isN (.val (.str x)) = some false := rfl
@[simp] theorem isi_tup {ts : List T} {n : String} : isiT [.tup ts, .ty n] = (kitB "tuple" n).map fun b => .bl b := rfl
@[simp] theorem isN_val_tup {ts : List T} : isN (.val (.tup ts)) = some false := rfl
@[simp] theorem isi_lst {ts : List T} {n : String} : isiT [.lst ts, .ty n] = (kitB "list" n).map fun b => .bl b := rfl
@[simp] theorem isN_val_lst {ts : List T} : isN (.val (.lst ts)) = some false := rfl
@[simp] theorem isi_scr {ts : List T} {n : String} : isiT [.scr ts, .ty n] = (kitB "list" n).map fun b => .bl b := rfl
@[simp] theorem isN_val_scr {ts : List T} : isN (.val (.scr ts)) = some false := rfl
@[simp] theorem isi_dct {ks : List Key} {us : List T} {n : String} : isiT [.dct ks us, .ty n] = (kitB "dict" n).map fun b => .bl b := rfl
@[simp] theorem isN_val_dct {ks : List Key} {us : List T} : isN (.val (.dct ks us)) = some false := rfl
@[simp] theorem kb_NoneType_int : kitB "NoneType" "int" = some false := by decide +kernel
@[simp] theorem kb_NoneType_bool : kitB "NoneType" "bool" = some false := by decide +kernel
@[simp] theorem kb_NoneType_str : kitB "NoneType" "str" = some false := by decide +kernel
@[simp] theorem kb_NoneType_tuple : kitB "NoneType" "tuple" = some false := by decide +kernel
@[simp] theorem kb_NoneType_list : kitB "NoneType" "list" = some false := by decide +kernel
@[simp] theorem kb_NoneType_dict : kitB "NoneType" "dict" = some false := by decide +kernel
@[simp] theorem kb_bool_int : kitB "bool" "int" = some true := by decide +kernel
@[simp] theorem kb_bool_bool : kitB "bool" "bool" = some true := by decide +kernel
@[simp] theorem kb_bool_str : kitB "bool" "str" = some false := by decide +kernel
@[simp] theorem kb_bool_tuple : kitB "bool" "tuple" = some false := by decide +kernel
@[simp] theorem kb_bool_list : kitB "bool" "list" = some false := by decide +kernel
@[simp] theorem kb_bool_dict : kitB "bool" "dict" = some false := by decide +kernel
@[simp] theorem kb_int_int : kitB "int" "int" = some true := by decide +kernel
@[simp] theorem kb_int_bool : kitB "int" "bool" = some false := by decide +kernel
@[simp] theorem kb_int_str : kitB "int" "str" = some false := by decide +kernel
@[simp] theorem kb_int_tuple : kitB "int" "tuple" = some false := by decide +kernel
@[simp] theorem kb_int_list : kitB "int" "list" = some false := by decide +kernel
@[simp] theorem kb_int_dict : kitB "int" "dict" = some false := by decide +kernel
@[simp] theorem kb_str_int : kitB "str" "int" = some false := by decide +kernel
@[simp] theorem kb_str_bool : kitB "str" "bool" = some false := by decide +kernel
@[simp] theorem kb_str_str : kitB "str" "str" = some true := by decide +kernel
@[simp] theorem kb_str_tuple : kitB "str" "tuple" = some false := by decide +kernel
@[simp] theorem kb_str_list : kitB "str" "list" = some false := by decide +kernel
@[simp] theorem kb_str_dict : kitB "str" "dict" = some false := by decide +kernel
@[simp] theorem kb_tuple_int : kitB "tuple" "int" = some false := by decide +kernel
@[simp] theorem kb_tuple_bool : kitB "tuple" "bool" = some false := by decide +kernel
@[simp] theorem kb_tuple_str : kitB "tuple" "str" = some false := by decide +kernel
@[simp] theorem kb_tuple_tuple : kitB "tuple" "tuple" = some true := by decide +kernel
@[simp] theorem kb_tuple_list : kitB "tuple" "list" = some false := by decide +kernel
@[simp] theorem kb_tuple_dict : kitB "tuple" "dict" = some false := by decide +kernel
@[simp] theorem kb_list_int : kitB "list" "int" = some false := by decide +kernel
@[simp] theorem kb_list_bool : kitB "list" "bool" = some false := by decide +kernel
@[simp] theorem kb_list_str : kitB "list" "str" = some false := by decide +kernel
@[simp] theorem kb_list_tuple : kitB "list" "tuple" = some false := by decide +kernel
@[simp] theorem kb_list_list : kitB "list" "list" = some true := by decide +kernel
@[simp] theorem kb_list_dict : kitB "list" "dict" = some false := by decide +kernel
@[simp] theorem kb_dict_int : kitB "dict" "int" = some false := by decide +kernel
@[simp] theorem kb_dict_bool : kitB "dict" "bool" = some false := by decide +kernel
@[simp] theorem kb_dict_str : kitB "dict" "str" = some false := by decide +kernel
@[simp] theorem kb_dict_tuple : kitB "dict" "tuple" = some false := by decide +kernel
@[simp] theorem kb_dict_list : kitB "dict" "list" = some false := by decide +kernel
@[simp] theorem kb_dict_dict : kitB "dict" "dict" = some true := by decide +kernel
@[simp] theorem isN_own {l : Addr} {ts : List T} : isN (.own l ts) = some false := rfl
@[simp] theorem truT_bl {b : Bool} : truT (.bl b) = some b := rfl
@[simp] theorem truT_int {i : Int} : truT (.int i) = some (i != 0) := rfl
@[simp] theorem truT_tup {ts : List T} : truT (.tup ts) = some (!ts.isEmpty) := rfl
@[simp] theorem truT_lst {ts : List T} : truT (.lst ts) = some (!ts.isEmpty) := rfl
@[simp] theorem seq_tup {ts : List T} : (T.tup ts).seq = some ts := rfl
@[simp] theorem seq_lst {ts : List T} : (T.lst ts).seq = some ts := rfl
@[simp] theorem seq_scr {ts : List T} : (T.scr ts).seq = some ts := rfl
@[simp] theorem addT_int {i j : Int} : addT (.int i) (.int j) = some (.int (i + j)) := rfl
@[simp] theorem addT_tup {xs ys : List T} : addT (.tup xs) (.tup ys) = if few (xs.length + ys.length) = true then some (.tup (xs ++ ys)) else none := rfl
@[simp] theorem addT_lst {xs ys : List T} : addT (.lst xs) (.lst ys) = if few (xs.length + ys.length) = true then some (.lst (xs ++ ys)) else none := rfl
@[simp] theorem subT_int {i j : Int} : subT (.int i) (.int j) = some (.int (i - j)) := rfl
@[simp] theorem mulT_int {i j : Int} : mulT (.int i) (.int j) = if wide i j = true then some (.int (i * j)) else none := rfl
@[simp] theorem divT_int {i j : Int} : divT (.int i) (.int j) = if divOk j = true then some (.int (i / j)) else none := rfl
@[simp] theorem modT_int {i j : Int} : modT (.int i) (.int j) = if decide (0 < j) = true then some (.int (i % j)) else none := rfl
@[simp] theorem powT_int {i j : Int} : powT (.int i) (.int j) = if powOk i j = true then some (.int (i ^ j.toNat)) else none := rfl
@[simp] theorem negT_int {i : Int} : negT (.int i) = some (.int (-i)) := rfl
@[simp] theorem ltT_int {i j : Int} : ltT (.int i) (.int j) = some (.bl (decide (i < j))) := rfl
@[simp] theorem leT_int {i j : Int} : leT (.int i) (.int j) = some (.bl (decide (i ≤ j))) := rfl
@[simp] theorem gtT_int {i j : Int} : gtT (.int i) (.int j) = some (.bl (decide (j < i))) := rfl
@[simp] theorem geT_int {i j : Int} : geT (.int i) (.int j) = some (.bl (decide (j ≤ i))) := rfl
@[simp] theorem leT_bl {i : Int} {b : Bool} : leT (.int i) (.bl b) = none := rfl
@[simp] theorem lenT_tup {ts : List T} : lenT [.tup ts] = some (.int ts.length) := rfl
@[simp] theorem lenT_lst {ts : List T} : lenT [.lst ts] = some (.int ts.length) := rfl
@[simp] theorem lenT_scr {ts : List T} : lenT [.scr ts] = some (.int ts.length) := rfl
@[simp] theorem absT_int {i : Int} : absT [.int i] = some (.int (if i < 0 then -i else i)) := rfl
@[simp] theorem max2T_int {i j : Int} : max2T [.int i, .int j] = some (.int (if j > i then j else i)) := rfl
@[simp] theorem min2T_int {i j : Int} : min2T [.int i, .int j] = some (.int (if j < i then j else i)) := rfl
@[simp] theorem intT_int {i : Int} : intT [.int i] = some (.int i) := rfl
@[simp] theorem intT_bl {b : Bool} : intT [.bl b] = some (.int (if b then 1 else 0)) := rfl
@[simp] theorem reprT_bl {b : Bool} : reprT [.bl b] = some (.str (if b then "True" else "False")) := rfl
@[simp] theorem tupleT_lst {ts : List T} : tupleT [.lst ts] = some (.tup ts) := rfl
@[simp] theorem tupleT_tup {ts : List T} : tupleT [.tup ts] = some (.tup ts) := rfl
@[simp] theorem sumT_ints {ns : List Int} : sumT [.lst (ns.map T.int)] = some (.int ns.sum) := by
  show (intsOf (ns.map T.int)).map _ = _
  rw [intsOf_map]
  rfl
@[simp] theorem allT_bls {ns : List Bool} : allT [.lst (ns.map T.bl)] = some (.bl (ns.all id)) := by
  show (blsOf (ns.map T.bl)).map _ = _
  rw [blsOf_map]
  rfl
@[simp] theorem slT_tup {ts : List T} {lo hi : Option Int} : slT (.tup ts) lo hi = some (.tup (cutT ts lo hi)) := rfl
@[simp] theorem ixT_tup {ts : List T} {i : Int} : ixT (.tup ts) (.int i) = atI ts i := rfl
@[simp] theorem ixT_lst {ts : List T} {i : Int} : ixT (.lst ts) (.int i) = atI ts i := rfl
@[simp] theorem ixT_scr {ts : List T} {i : Int} : ixT (.scr ts) (.int i) = atI ts i := rfl
end
theorem atI_ok {α : Type} {xs : List α} {i : Int} {x : α} (h0 : 0 ≤ i) (h : xs[i.toNat]? = some x) : atI xs i = some x := by
  have hl : i.toNat < xs.length := (List.getElem?_eq_some_iff.mp h).1
  unfold atI ixN
  rw [if_pos h0, if_pos (by omega)]
  exact h
end Tr


set_option Elab.async false
set_option linter.all false
set_option maxRecDepth 100000
set_option maxHeartbeats 0
namespace Tr
open PySem PySem.Spec PyProof.Rows L2
variable [Tabl]
section
variable {sl : List Sl} {P : Sl → Prop} {k : Ks} {a b : WE} {i j : Nat} {t : T}
@[simp] theorem wiEnum_e {w : WA} {Q : List T → Prop} : wiEnum w sl Q = w sl fun xs => ∃ t ts, xs = [.val t] ∧ (t = .lst ts ∨ t = .tup ts) ∧ Q (enT 0 ts) := rfl
@[simp] theorem wFld_e {C : Addr} {f : Str} : wFld C f a sl P = a sl fun x => ∃ ns ts t, x = .val (.ins C ns ts) ∧ (ns.zip ts).lookup f = some t ∧ P (.val t) := rfl
@[simp] theorem wMake_e {C : Addr} {n m : Nat} {is : List (Bool × Nat)} {dts : List T} {wf : WM} {v w : WA} : wMake C n m is dts wf v w sl P = v sl fun xs => w sl fun ys => xs.length = n ∧ ys.length = m ∧ xs.all isArg = true ∧ ys.all isArg = true ∧ wf (xs ++ pickL is (dts.map Sl.val) ys) fun ns ts => P (.val (.ins C ns ts)) := rfl
@[simp] theorem wOwnEq_e {C : Addr} {wf : WF} : wOwnEq C wf a b sl P = a sl fun x => b sl fun y => ∃ ns ts u, x = .val (.ins C ns ts) ∧ y = .val u ∧ tyOk C u ∧ wf [x, y] fun z => ∃ r, z = .val (.bl r) ∧ P z := rfl
@[simp] theorem wStrI_e {C : Addr} {wf : WF} {w : WA} : wStrI C wf w sl P = w sl fun xs => ∃ ns ts, xs = [.val (.ins C ns ts)] ∧ wf xs fun z => ∃ r, z = .val (.str r) ∧ P z := rfl
@[simp] theorem wIsI_e {C : Addr} : wIsI C a sl P = a sl fun x => ∃ t b, x.tree = some t ∧ isI C t = some b ∧ P (.val (.bl b)) := rfl
@[simp] theorem wLstRg1_e {Q : List T → Prop} : wLstRg1 a sl Q = a sl fun x => ∃ n : Int, x = .val (.int n) ∧ 0 ≤ n ∧ n ≤ 100000 ∧ Q (upTo 0 n.toNat) := rfl
@[simp] theorem wDictP_e {w : WA} : wDictP w sl P = w sl fun xs => ∃ ts kvt, xs = [.val (.lst ts)] ∧ pairsT ts = some kvt ∧ (kvt.map (·.1)).Nodup ∧ P (.val (.dct (kvt.map (·.1)) (kvt.map (·.2)))) := rfl
@[simp] theorem wDGet_e : wDGet a b sl P = a sl fun x => b sl fun y => ∃ ks ts u k t, x.tree = some (.dct ks ts) ∧ y = .val u ∧ keyT u = some k ∧ ((ks.zip ts).find? fun kv => decide (kv.1 = k)).map (·.2) = some t ∧ P (.val t) := rfl
@[simp] theorem wParOV_e {w : WL} : wParOV i j w a k sl = w sl fun ts => a sl fun x => storable x = true ∧ ∀ l, k.nx ((sl.set i (.own l ts)).set j x) := rfl
@[simp] theorem wSto_e : wSto i a b k sl = ∃ l ts, nth sl i = .own l ts ∧ b sl fun x => ∃ t, x = .val t ∧ a sl fun y => ∃ (n : Int) (j : Nat), y = .val (.int n) ∧ ixN ts.length n = some j ∧ k.nx (sl.set i (.own l (ts.set j t))) := rfl
end
/-- enumerate, each item told by a function -/
def enM (f : Nat → T → T) : Nat → List T → List T
  | _, [] => []
  | k, t :: r => f k t :: enM f (k + 1) r
end Tr


set_option Elab.async false
set_option linter.all false
set_option maxRecDepth 100000
set_option maxHeartbeats 0
/-! Dicts over trees: read, made, written -/
namespace Tr
open PySem PySem.Spec PyProof.Rows L2
variable [Tabl]
section
variable {X : Cx} {K : PySem.W.Frag}
/-! ### 1. what a dict holds -/
def getK (ks : List Key) (ts : List T) (k : Key) : Option T := ((ks.zip ts).find? fun kv => decide (kv.1 = k)).map (·.2)
theorem SlOk.val {D A0 A : Avoid} {H : Hp} {v : V} {t : T} (h : SlOk K D A0 A H v (.val t)) : Rep K A H v t := h
/-- d.get(k), d.get(k, x) -/
def wDGet1 (a b : WE) : WE := fun sl P => a sl fun x => ∃ ks ts, x.tree = some (.dct ks ts) ∧ b sl fun y => ∃ u k, y = .val u ∧ keyT u = some k ∧ P (.val ((getK ks ts k).getD .non))
def wDGet2 (a b c : WE) : WE := fun sl P => a sl fun x => ∃ ks ts, x.tree = some (.dct ks ts) ∧ b sl fun y => c sl fun z => ∃ u k d, y = .val u ∧ keyT u = some k ∧ z = .val d ∧ P (.val ((getK ks ts k).getD d))
/-- k in d, k not in d -/
def wDIn (neg : Bool) (a b : WE) : WE := fun sl P => a sl fun x => b sl fun y => ∃ u k ks ts, x = .val u ∧ keyT u = some k ∧ y.tree = some (.dct ks ts) ∧ P (.val (.bl (if neg = true then !(getK ks ts k).isSome else (getK ks ts k).isSome)))
/-! ### 2. a fresh dict -/
abbrev WD := List Sl → (List Key → List T → Prop) → Prop
def dOf (K : PySem.W.Frag) (w : WD) : TE := fun σ H Q => ∃ F D A sl P, Sta K F D A H σ sl ∧ w sl P ∧ ∀ p H' ks vs ts, Beh D H H' → H p = none → p ∉ A → H' p = some (.dK (ks.zip vs)) → ks.length = vs.length → RepAll K (p :: A) H' vs ts → P ks ts → Q (.ref p) H'
abbrev GD (X : Cx) (e : Expr) (w : WD) : Prop := PE X e (dOf X.K w)
def SD (K : PySem.W.Frag) (t : TE) (w : WD) : Prop := ∀ F D A H σ sl P Q, Sta K F D A H σ sl → w sl P → (∀ p H' ks vs ts, Beh D H H' → H p = none → p ∉ A → H' p = some (.dK (ks.zip vs)) → ks.length = vs.length → RepAll K (p :: A) H' vs ts → P ks ts → Q (.ref p) H') → t σ H Q
def wD (w : WD) : WE := fun sl P => w sl fun ks ts => P (.val (.dct ks ts))
theorem GD.ge {e : Expr} {w : WD} (h : GD X e w) : GE X e (wD w) := ge_of h fun F D A H σ sl P Q S hw q =>
  ⟨F, D, A, sl, _, S, hw, fun p H' ks vs ts be hp hA hv l r hx => q _ H' (.val (.dct ks ts)) be (Rep.dct hA (.inl hv) l (r.sub fun a ha => List.mem_cons_of_mem _ ha)) hx⟩
def wDNew : WD := fun _ P => P [] []
/-- dict(d) -/
def wDCopy (a : WA) : WD := fun sl P => a sl fun xs => ∃ x ks ts, xs = [x] ∧ x.tree = some (.dct ks ts) ∧ P ks ts
/-! ### 3. a dict of one's own -/
def wOwnD (e : WD) (i : Nat) : WS := fun k sl => e sl fun ks ts => ∀ l, k.nx (sl.set i (.ownd l ks ts))
/-- in its place, or at the end -/
def hasK (k : Key) (ks : List Key) : Bool := ks.any fun n => decide (n = k)
def putKs (k : Key) (ks : List Key) : List Key := if hasK k ks = true then ks else ks ++ [k]
def replV {α : Type} (k : Key) (t : α) : List Key → List α → List α
  | n :: r, u :: us => (if n = k then t else u) :: replV k t r us
  | _, _ => []
def putVs {α : Type} (k : Key) (t : α) (ks : List Key) (ts : List α) : List α := if hasK k ks = true then replV k t ks ts else ts ++ [t]
def dropKs (k : Key) (ks : List Key) : List Key := ks.filter fun n => decide (n ≠ k)
def dropVs {α : Type} (k : Key) : List Key → List α → List α
  | n :: r, u :: us => if n = k then dropVs k r us else u :: dropVs k r us
  | _, _ => []
/-- x[k] = e, x a dict of one's own -/
def wDPut (i : Nat) (ix e : WE) : WS := fun k sl => e sl fun x => ∃ t, x = .val t ∧ ∃ l ks ts, nth sl i = .ownd l ks ts ∧ ks.length < 1000000 ∧ ix sl fun y => ∃ u n, y = .val u ∧ keyT u = some n ∧ k.nx (sl.set i (.ownd l (putKs n ks) (putVs n t ks ts)))
/-- x.pop(k, d): the value is not used -/
def wDPop (i : Nat) (ix e : WE) : WS := fun k sl => ∃ l ks ts, nth sl i = .ownd l ks ts ∧ ix sl fun y => e sl fun z => ∃ u n d, y = .val u ∧ keyT u = some n ∧ z = .val d ∧ k.nx (sl.set i (.ownd l (dropKs n ks) (dropVs n ks ts)))
end
end Tr


set_option Elab.async false
set_option linter.all false
set_option maxRecDepth 100000
set_option maxHeartbeats 0
/-! Readings of what may raise: beside the normal ends a wish R for the class of the exception -/
namespace Tr
open PySem PySem.Spec PyProof.Rows L2
variable [Tabl]
/-- what an exception keeps: a field and its value -/
abbrev XF := Option (Str × T)
def ExcF (K : PySem.W.Frag) (A : Avoid) (H : Hp) (d : Option Addr) : XF → Prop
  | none => True
  | some p => ∃ dd v, d = some dd ∧ dd ∉ A ∧ H dd = some (.xd [(p.1, v)]) ∧ Rep K A H v p.2
theorem ExcF.sub {K : PySem.W.Frag} {A B : Avoid} {H : Hp} {d : Option Addr} (s : ∀ a ∈ B, a ∈ A) : ∀ {o : XF}, ExcF K A H d o → ExcF K B H d o
  | none, _ => trivial
  | some _, ⟨dd, v, h1, h2, h3, h4⟩ => ⟨dd, v, h1, fun z => h2 (s _ z), h3, h4.sub s⟩
abbrev RX := Value → XF → Prop
abbrev RXs := Value → XF → List Sl → Prop
abbrev WEX := RX → WE
abbrev WSX := RXs → WS
abbrev WFX := RX → WF
def eOfX (K : PySem.W.Frag) (W : L2.WX) (w : WEX) : TE := fun σ H Q => ∃ F D A sl P R, Sta K F D A H σ sl ∧ w R sl P ∧ (∀ v H' x, Beh D H H' → SlOk K D F.A0 A H' v x → P x → Q v H') ∧ ∀ H' cls d o, Beh D H H' → ExcF K A H' d o → R cls o → W cls d σ H'
def sOfX (K : PySem.W.Frag) (W : L2.WX) (w : WSX) : TS := fun E σ H => ∃ F D A sl k R, Sta K F D A H σ sl ∧ w R k sl ∧
  (∀ D' A' H' σ' sl', Sta K F D' A' H' σ' sl' → k.nx sl' → E.nx σ' H') ∧ (∀ D' A' H' σ' sl', Sta K F D' A' H' σ' sl' → k.bk sl' → E.bk σ' H') ∧ (∀ D' A' H' σ' sl', Sta K F D' A' H' σ' sl' → k.ct sl' → E.ct σ' H') ∧
  (∀ D' A' H' σ' sl' v x, Sta K F D' A' H' σ' sl' → SlOk K D' F.A0 A' H' v x → k.rt x → E.rt v H') ∧
  (∀ D' A' H' σ' sl' cls d o, Sta K F D' A' H' σ' sl' → ExcF K A' H' d o → R cls o sl' → W cls d σ' H')
abbrev GEX (X : Cx) (W : L2.WX) (e : Expr) (w : WEX) : Prop := PE X e (eOfX X.K W w)
abbrev GSX (X : Cx) (W : L2.WX) (st : Stmt) (w : WSX) : Prop := PS X st (sOfX X.K W w)
abbrev GSXs (X : Cx) (W : L2.WX) (sts : List Stmt) (w : WSX) : Prop := PSs X sts (sOfX X.K W w)
section
variable {X : Cx} {W : L2.WX}
/-! ### statements -/
theorem gx_of {st : Stmt} {t : TS} {w : WSX} (h : PS X st t) (s : ∀ E σ H, sOfX X.K W w E σ H → t E σ H) : GSX X W st w := ⟨fun pins sh σ H E I q => h.run pins sh σ H E I (s E σ H q)⟩
theorem gxe_of {e : Expr} {t : TE} {w : WEX} (h : PE X e t) (s : ∀ σ H Q, eOfX X.K W w σ H Q → t σ H Q) : GEX X W e w := ⟨fun pins sh σ H Q I q => h.run pins sh σ H Q I (s σ H Q q)⟩
/-- what raises nothing -/
def xL (w : WS) : WSX := fun _ => w
def xN : WSX := fun _ k sl => k.nx sl
theorem gxs_nil : GSXs X W [] xN := ⟨fun pins sh σ H E I ⟨F, D, A, sl, k, R, S, hw, q, _⟩ => pss_nil.run pins sh σ H E I (q D A H σ sl S hw)⟩
theorem gxs_one {st : Stmt} {w : WSX} (h : GSX X W st w) : GSXs X W [st] w := pss_one h
theorem gxs_lift {sts : List Stmt} {w : WS} (h : GSs X sts w) : GSXs X W sts (xL w) := ⟨fun pins sh σ H E I ⟨F, D, A, sl, k, R, S, hw, q1, q2, q3, q4, _⟩ => h.run pins sh σ H E I ⟨F, D, A, sl, k, S, hw, q1, q2, q3, q4⟩⟩
def xSeq (a b : WSX) : WSX := fun R k => a R { k with nx := fun sl => b R k sl }
theorem gxs_cons {st : Stmt} {rest : List Stmt} {a b : WSX} (h : GSX X W st a) (h2 : GSXs X W rest b) : GSXs X W (st :: rest) (xSeq a b) := ⟨fun pins sh σ H E I ⟨F, D, A, sl, k, R, S, hw, q1, q2, q3, q4, q5⟩ =>
  (pss_cons h h2).run pins sh σ H E I ⟨F, D, A, sl, { k with nx := fun sl' => b R k sl' }, R, S, hw, fun D' A' H' σ' sl' S' hb => ⟨F, D', A', sl', k, R, S', hb, q1, q2, q3, q4, q5⟩, q2, q3, q4, q5⟩⟩
def xIf (c : WT) (a b : WSX) : WSX := fun R k sl => c sl fun v => if v = true then a R k sl else b R k sl
theorem gx_if {c : Expr} {a b : List Stmt} {pos : Pos} {w : WT} {wa wb : WSX} (hc : GT X c w) (ha : GSXs X W a wa) (hb : GSXs X W b wb) : GSX X W (.If c a b pos) (xIf w wa wb) := gx_of (ps_if hc ha hb) fun E σ H ⟨F, D, A, sl, k, R, S, hw, q⟩ =>
  ⟨F, D, A, sl, _, S, hw, fun v H1 b1 hx => by
    cases v with
    | true => exact ⟨F, D, A, sl, k, R, S.beh b1, hx, q⟩
    | false => exact ⟨F, D, A, sl, k, R, S.beh b1, hx, q⟩⟩
def xRet (e : WEX) : WSX := fun R k sl => e (fun c o => R c o sl) sl k.rt
def xDrop (e : WEX) : WSX := fun R k sl => e (fun c o => R c o sl) sl fun _ => k.nx sl
theorem gx_expr {e : Expr} {pos : Pos} {w : WEX} (he : GEX X W e w) (hs : swapsWith e none pos.line X.env = pure false := by rfl) : GSX X W (.Expr e pos) (xDrop w) := gx_of (ps_expr he hs) fun E σ H ⟨F, D, A, sl, k, R, S, hw, q1, _, _, _, q5⟩ =>
  ⟨F, D, A, sl, _, _, S, hw, fun v H1 x b1 ok hx => q1 _ _ _ _ _ (S.beh b1) hx, fun H1 cls d o b1 hf hr => q5 _ _ _ _ _ _ _ o (S.beh b1) hf hr⟩
/-- raise X('..') -/
def xRaise (C : Addr) : WSX := fun R _ sl => R (.ref C) none sl
theorem gx_raise {x m : Str} {C : Addr} {bmB : List Value} {B newId initId : String} {j : Nat} {p p2 pos pos' : Pos} (hc : X.calm = true) (tk : Takes X W) (F : ExcBaseFacts B newId initId bmB) (q : PySem.W.excIn X.K C bmB newId = true) (gC : X.mg x = some (.ref C))
    (kC : PySem.W.keepIn X.K (.ref C) = true) (r : Raises X (.ref C)) (hg : Gl X x) (hdb : (x == ("__debug__" : Str)) = false := by decide) :
    GSX X W (.Raise (some (.Call (.Name x p) [.Constant (.str m) j p2] [] pos)) none pos') (xRaise C) := gx_of (ps_raise hc tk (pmk_own F q gC kC r hg hdb)) fun E σ H ⟨F, D, A, sl, k, R, S, hw, _, _, _, _, q5⟩ => q5 _ _ _ _ _ _ _ none S trivial hw
/-! ### expressions -/
def xE (w : WE) : WEX := fun _ => w
/-- the promise of a def that may raise -/
def spX (K : PySem.W.Frag) (wf : WFX) : Sp := fun vs H Q E => ∃ D A xs P R, (∀ d ∈ D, MovAt H d) ∧ (∀ d ∈ D, d ∈ A) ∧ Liv D A H ∧ Paired (ArgOk K D A H) vs xs ∧ wf R xs P ∧ (∀ v H' x, Beh D H H' → RetOk K A H' v x → P x → Q v H') ∧ ∀ cls d o H', Beh D H H' → ExcF K A H' d o → R cls o → E cls d H'
def xCall (wf : WFX) (dts : List T) (a : WA) : WEX := fun R sl P => a sl fun xs => xs.all isArg = true ∧ wf R (xs ++ dts.map Sl.val) P
theorem gxe_call {k : Nat} {f : Addr} {fd : FuncData} {ps : List Str} {wf : WFX} {dvs : List V} {ds : List Value} {dts : List T} {x : Str} {e : Expr} {es : List Expr} {a : WA} {p pos : Pos} (tk : Takes X W)
    (F : FnOk X.prog X.w X.K X.mg X.base (L2.CX X.prog X.w) k f fd ps (spX X.K wf)) (hr : Room k X.A) (hg : Gl X x) (hm : X.mg x = some (.ref f)) (hk : PySem.W.keepIn X.K (.ref f) = true) (hb : Binds X.K fd ps ds) (hd : Vals dvs ds) (hc : CTs dvs dts)
    (ha : GA X (e :: es) a) (hdb : (x == ("__debug__" : Str)) = false := by decide) (he : starEach (e :: es) X.env = (false, eval e X.env) :: starEach es X.env := by rfl) (hpl : (backTo pos (starEach es X.env)).any (·.1) = false := by rfl) :
    GEX X W (.Call (.Name x p) (e :: es) [] pos) (xCall wf dts a) := gxe_of (pe_callSD F hr hg hm hk hb hd (passAt tk) ha hdb he hpl) fun σ H Q ⟨F, D, A, sl, P, R, S, hw, q, q5⟩ =>
  ⟨F, D, A, sl, _, S, hw, fun vs H1 xs b1 oks hx => by
    obtain ⟨e1, hp⟩ := hx
    have S1 := S.beh b1
    refine ⟨D, A, _, P, R, S1.dice, S1.dA, S1.liv, Paired.app (args_ok oks e1) hc.args, hp, fun v H' x b2 ok hx => q v H' x (b1.trans b2) ?_ hx, fun cls d o H' b2 hf hr => q5 H' cls d o (b1.trans b2) hf hr⟩
    cases x with
    | val t => exact ok
    | _ => exact ok.elim⟩
end
/-! ### defs -/
section
variable {P : Program} {w : World} {K : PySem.W.Frag} {mg : Str → Option Value} {base : Heap}
def wDefX (n m : Nat) (ws : WSX) : WFX := fun R xs P => xs.length = n ∧ ws (fun c o _ => R c o) { nx := fun _ => P (.val .non), rt := retK P, bk := fun _ => False, ct := fun _ => False } (xs ++ List.replicate m .any)
theorem fn_treeX {x qual : Str} {params : Arguments} {body : List Stmt} {scope : Scope} {dvs : List V} {kws : List (Str × V)} {f : Addr} {fd : FuncData} {N ps : List Str} {k n m : Nat} {ws : WSX} (F : FunD K x qual params body scope dvs kws f fd) (S : FnScope N ps scope) (hn : ps.length = n) (hm : N.length - n = m)
    (hb : ∀ (cdv : Value) (A : Around) (outer : List Env) (s : Shared) (H : Hp) (E : XK), Room k (A.deeper (envOfC qual scope s.heap.objs.size f cdv)) → Takes (cxOf (L2.CX P w) P w K mg base N qual scope f cdv A outer s H E) (fun cls d _ H' => E cls d H') →
      GSXs (cxOf (L2.CX P w) P w K mg base N qual scope f cdv A outer s H E) (fun cls d _ H' => E cls d H') body ws) :
    FnOk P w K mg base (L2.CX P w) (k + 1) f fd ps (spX K (wDefX n m ws)) := by
  refine F.ok S (fun vs H Q E h => ?_) (fun cdv A outer s H vs Q E hr h => ?_)
  · obtain ⟨D, A, xs, P', R, _, _, _, h4, h5, _⟩ := h
    rw [Paired.length_eq h4, h5.1, hn]
  · obtain ⟨D, A', xs, P', R, h1, h2, h3, h4, h5, q, q5⟩ := h
    refine ⟨_, hb cdv A outer s H E hr (takes_of rfl rfl rfl rfl), ⟨D, A', H, [], []⟩, D, A', _, _, _, start_sta h1 h2 h3 h4 (m := m) (by rw [Paired.length_eq h4, h5.1]; exact hm), h5.2, fun D' A2 H' σ' sl' S' hx => ?_, fun _ _ _ _ _ _ z => z.elim, fun _ _ _ _ _ _ z => z.elim, fun D' A2 H' σ' sl' v x S' ok hx => ?_, fun D' A2 H' σ' sl' cls d o S' hf hx => ?_⟩
    · exact q .non H' (.val .non) ⟨S'.ext, S'.keep⟩ Rep.non hx
    · have be : Beh D H H' := ⟨S'.ext, S'.keep⟩
      cases x with
      | val t => exact q v H' (.val t) be (Rep.sub S'.sub ok) hx
      | ob l ts =>
        obtain ⟨rfl, g1, g2, g3, g4⟩ := ok
        cases ts with
        | lst ts => exact q (.ref l) H' (.val (.lst ts)) be (g4.rep (o := .lst ts) g2 fun _ _ r => r.sub S'.sub) hx
        | dct ks ts => exact q (.ref l) H' (.val (.dct ks ts)) be (g4.rep (o := .dct ks ts) g2 fun _ _ r => r.sub S'.sub) hx
      | any => exact hx.elim
      | dice => exact hx.elim
    · exact q5 cls d o H' ⟨S'.ext, S'.keep⟩ (hf.sub S'.sub) hx
end
end Tr


set_option Elab.async false
set_option linter.all false
set_option maxRecDepth 100000
set_option maxHeartbeats 0
/-! A lambda handed to a def that tries it: what it raises becomes a text -/
namespace Tr
open PySem PySem.Spec PyProof.Rows L2 LamX
variable [Tabl]
/-- all stays but the table at P, which still names q -/
structure Told (P : Addr) (q : Str) (H H1 : Hp) : Prop where
  ext : ∀ b o, b ≠ P → H b = some o → H1 b = some o
  was : TabS H P q
  tab : TabS H1 P q
theorem code_ne {H : Hp} {P c : Addr} {q r : Str} (t : TabS H P q) (h : H c = some (CodeO c r)) : c ≠ P := fun z => by
  obtain ⟨ps, t1, _⟩ := t
  rw [z, t1] at h
  exact codeO_ne ps (Option.some.inj h).symm
theorem Told.code {P c : Addr} {q r : Str} {H H1 : Hp} (t : Told P q H H1) (h : H c = some (CodeO c r)) : H1 c = some (CodeO c r) := t.ext _ _ (code_ne t.was h) h
theorem Told.tabs {P : Addr} {q : Str} {H H1 : Hp} (t : Told P q H H1) {p : Addr} {r : Str} (hu : p = P → r = q) (h : TabS H p r) : TabS H1 p r := by
  by_cases e : p = P
  · rw [hu e, e]; exact t.tab
  · obtain ⟨ps, h1, h2, h3⟩ := h
    exact ⟨ps, t.ext _ _ e h1, h2, fun pos cv hc => by
      obtain ⟨c, e1, e2⟩ := h3 pos cv hc
      exact ⟨c, e1, t.code e2⟩⟩
section
variable {X : Cx} {pins : List (Addr × Obj)} {σ : L2.St} {H : Hp} {s : Shared}
theorem lam_new {c P : Addr} {params : Arguments} {body : Expr} {scope : Scope} {pos : Pos} {E : Value → Shared → Prop} {Q : Value → Shared → Prop} (I : Inv X pins σ H s) (TB : TabB X.base X.mg c P) (hcode : X.env.code = .ref c)
    (t : TabS H P (X.env.qual ++ "<lambda>")) (hdef : defaultsOf params X.env = ([], [])) (hfree : ∀ y ∈ scope.names, y.2 = .free → ∃ c, X.env.cells.lookup y.1 = some c)
    (h : ∀ (f c' : Addr) (pm ctv : Value) (H1 : Hp) (s' : Shared), Inv X pins σ H1 s' → Told P (X.env.qual ++ "<lambda>") H H1 →
      s'.heap.get? f = some (PySem.W.kla_obj "<lambda>" (X.env.qual ++ "<lambda>") params body scope (cloFrom X.env.cells scope.names []) pm c' ctv) → H1 f = none → f ∉ frs X.stack → H1 c' = some (CodeO c' (X.env.qual ++ "<lambda>")) → Q (.ref f) s') :
    wpAny (model X.prog X.w) X.A (eval (.Lambda params body scope pos) X.env) Q E s := by
  obtain ⟨ps, tP, tt, tc⟩ := id t
  have gP : s.heap.get? P = some { cls := .none, data := .fields ps } := I.hok P _ tP
  have far : ∀ f, s.heap.objs.size ≤ f → f ∉ frs X.stack := fun f hf z => (List.mem_cons.mp (I.stkSub _ z)).elim (fun e => absurd I.lt (by rw [← e]; exact Nat.not_lt.mpr hf)) (I.nofs hf)
  refine PySem.W.kla_eval hdef ?_
  cases hc : codeAmong pos ps.toList with
  | some cv =>
    obtain ⟨c', rfl, hco⟩ := tc pos cv hc
    exact PySem.W.kla_makeFunctionHit (c := c) (closure_ok hfree) I.ok.glob (I.mod.glob.keeps I.bk) hcode (TB.code.keeps I.bk) gP tt hc (TB.bm.keeps I.bk) fun ctv h' tk hx hsz =>
      h _ c' _ ctv H _ (I.kept fun b o e => Heap.get?_push_of_some _ (hx b o e)) ⟨fun _ _ _ e => e, t, t⟩ (Heap.get?_push_size _ rfl) (I.hok.fresh hsz) (far _ hsz) hco
  | none =>
    refine PySem.W.kla_makeFunction (c := c) (closure_ok hfree) I.ok.glob (I.mod.glob.keeps I.bk) hcode (TB.code.keeps I.bk) gP tt hc TB.gP (TB.bm.keeps I.bk) fun c' ctv h' tk hx hge hlt hrec htb => ?_
    obtain ⟨c2, oc, vs, tk2, e2, hoc, hd, hv⟩ := hrec
    cases e2
    have le : s.heap.objs.size ≤ h'.objs.size := Nat.le_of_lt (Nat.lt_of_le_of_lt hge hlt)
    have fresh : H c' = none := I.hok.fresh hge
    have J := inv_table (t' := tk) (more := #[rawInt pos.line, rawInt pos.col, .ref c']) I tP (fun b o hb e => Heap.get?_push_of_some (PySem.W.kla_obj "<lambda>" (X.env.qual ++ "<lambda>") params body scope (cloFrom X.env.cells scope.names []) ((X.mg "__name__").getD .none) c' ctv) (hx b o hb e)) (Heap.get?_push_of_some _ htb) hge ⟨oc, vs, tk2, Heap.get?_push_of_some _ hoc, hd, hv⟩
    have nPc : P ≠ c' := ne_of_none tP fresh
    have st : ∀ b o, b ≠ P → H b = some o → upd (upd H P (.tbl (ps ++ #[rawInt pos.line, rawInt pos.col, .ref c']))) c' (CodeO c' (X.env.qual ++ "<lambda>")) b = some o := fun b o n e => by
      rw [upd_ne (ne_of_none e fresh), upd_ne n]; exact e
    refine h _ c' _ ctv _ _ J ⟨st, t, _, by rw [upd_ne nPc, upd_same], ?_, fun p' cv hcv => ?_⟩ (Heap.get?_push_size _ rfl) ?_ (far _ le) upd_same
    · rw [Array.toList_append]
      exact PySem.TriplesOk_snoc _ _ _ _ tt
    · rw [Array.toList_append] at hcv
      rcases among_app _ tt hcv with z | z
      · obtain ⟨c0, e1, e2⟩ := tc p' cv z
        exact ⟨c0, e1, st _ _ (code_ne t e2) e2⟩
      · exact ⟨c', z, upd_same⟩
    · rw [upd_ne (Nat.ne_of_gt hlt), upd_ne (Nat.ne_of_gt (Nat.lt_of_lt_of_le (Heap.lt_size gP) le))]
      exact I.hok.fresh le
end
section
variable {X : Cx}
/-- what is wished of x(lambda: body) -/
def tLamP (P : Addr) (q : Str) (TT : (XK → Hp → VK → Prop) → Hp → VK → Prop) (t : XK → TE) : TE := fun σ H Q => TabS H P q ∧ ∀ H1, Told P q H H1 → TT (fun E H' Q' => t E σ H' Q') H1 Q
theorem pe_lam {TT : (XK → Hp → VK → Prop) → Hp → VK → Prop} {x a : Str} {g c P : Addr} {fd : FuncData} {k : Nat} {pg : Arguments} {bg : List Stmt} {sg : Scope} {Ng : List Str} {params : Arguments} {body : Expr} {scope : Scope} {t : XK → TE} {p lpos pos : Pos}
    (F : FunD X.K x x pg bg sg [] [] g fd) (hg : Gl X x) (hm : X.mg x = some (.ref g)) (hk : PySem.W.keepIn X.K (.ref g) = true) (hb : L2.Binds X.K fd [a] []) (Sg : FnScope Ng [a] sg) (hNg : Ng[0]? = some a) (hva : Vis sg a)
    (hG : ∀ cdv, GivesTo X Ng x sg g cdv bg a (X.env.qual ++ "<lambda>") TT) (TB : TabB X.base X.mg c P) (hcode : X.env.code = .ref c) (hr : Room (k + 2) X.A) (L : LamS X.env.scope scope) (hdef : defaultsOf params X.env = ([], []))
    (hbind : ∀ (q : Str) (cl : List (Str × Addr)) (pm cv ctv : Value), bindArgs (PySem.W.kla_fn "<lambda>" q params body scope cl pm cv ctv) ⟨[], []⟩ = pure [])
    (hbody : ∀ (A : Around) (outer : List Env) (s : Shared) (H : Hp) (E : XK) (f c' : Addr), Room k (A.deeper (lamEnv X scope s.heap.objs.size f c')) → PE (lamCx X A outer s H E scope f c') body (t E))
    (hdb : (x == ("__debug__" : Str)) = false := by decide) (hd : (a == ("__debug__" : Str)) = false := by decide) (hcd : (a == ("__classdict__" : Str)) = false := by decide) :
    PE X (.Call (.Name x p) [.Lambda params body scope lpos] [] pos) (tLamP P (X.env.qual ++ "<lambda>") TT t) := by
  obtain ⟨oc, od, dV, kV, doc, pm, an, cdv, ct, osl, rfl, lk, hcg, _, _⟩ := F.ex
  refine ⟨fun pins s σ H Q I ⟨tb, h⟩ => wpAny_Call_Name_kw (ld_glob I hg hm (PySem.W.callWith_K (h₀ := X.base) I.ok.mod.kin hk ?_ (by rfl) (by rfl)) hdb)⟩
  show wpAny _ _ (spliced ((false, eval (.Lambda params body scope lpos) X.env) :: backTo pos (starEach [] X.env))) _ _ s
  refine Calls.spliced_cons (lam_new I TB hcode tb hdef (L.has I.ok) fun f c' pm' ctv H1 s' J told hf hfn hfr hco => Calls.spliced_nil ⟨J.kIn, wpAny_call (codeAny_mono (run_ofS (CX := C8.CX0) (E := C8.E0) (Q := Q) (N := Ng) (ps := [a]) (us := [.ref f]) (vs := [.ref f]) lk hcg Sg hr J.env0 (hb s' [.ref f] J.kIn rfl) (.cons rfl .nil) rfl fun hr' => ?_) fun r s2 hq => ?_)⟩)
  · obtain ⟨t', h1, h2⟩ := hG cdv f c' s' H1 Q (fun E H' Q' => t E σ H' Q') (fun W pn xe E p1 p2 tk hW => pe_act (i := 0) J L hf hfn hfr (hbind _ _ _ _ _) tk hW hr' (fun A outer s H hr2 => hbody A outer s H E f c' hr2) hNg hva hd hcd) hco (h H1 told)
    exact ⟨t', h1.nox, h2⟩
  · match r, hq with
    | .error _, hq => exact (show False from hq).elim
    | .ok (.ret _), hq => exact J.after hq
/-! ### try: a() / except X: return '..' / .. / return '..' -/
def wHds (em : Value → Value → Option Bool) (cls : Value) (P : Str → Prop) : List (Value × Str) → Prop
  | [] => False
  | (c, t) :: r => ∃ b, em cls c = some b ∧ (b = true → P t) ∧ (b = false → wHds em cls P r)
def TTmet (K : PySem.W.Frag) (hds : List (Value × Str)) (fine : Str) : (XK → Hp → VK → Prop) → Hp → VK → Prop := fun tl H Q =>
  tl (fun cls _ H' => wHds (PySem.W.exmOne K) cls (fun t => Q (.str t) H') hds) H fun _ H' => Q (.str fine) H'
inductive MetH (mg : Str → Option Value) (sg : Scope) : List ExceptHandler → List (Value × Str) → Prop
  | nil : MetH mg sg [] []
  | cons {x t : Str} {c : Value} {j : Nat} {np p5 p6 p7 : Pos} {hds : List ExceptHandler} {l : List (Value × Str)} (h1 : sg.names.lookup x = some .globalImplicit) (h2 : mg x = some c) (r : MetH mg sg hds l) (h3 : (x == ("__debug__" : Str)) = false := by decide) :
      MetH mg sg (.ExceptHandler (some (.Name x np)) none [.Return (some (.Constant (.str t) j p5)) p6] p7 :: hds) ((c, t) :: l)
def hdT (l : List (Value × Str)) : List (Value × (Addr → Value → Option Addr → TS)) := l.map fun ct => (ct.1, fun _ _ _ => tRet (tC (.str ct.2)))
theorem MetH.ok {Z : Cx} {mg : Str → Option Value} {hds : List ExceptHandler} {l : List (Value × Str)} {sg : Scope} (h : MetH mg sg hds l) (e : Z.env.scope = sg) (em : Z.mg = mg) : HdsOk Z hds (hdT l) := by
  induction h with
  | nil => exact .nil
  | cons h1 h2 r h3 ih => exact .cons ⟨by subst e; exact h1, h3, .inl (by rw [em]; exact h2)⟩ (fun a oe cls d pn _ _ => pss_one (ps_ret pe_str)) ih
end
/-! ### the reading -/
section
variable {X : Cx}
theorem wHds.imp {em : Value → Value → Option Bool} {cls : Value} {P P' : Str → Prop} (f : ∀ t, P t → P' t) : ∀ {l : List (Value × Str)}, wHds em cls P l → wHds em cls P' l
  | [], h => h
  | (c, t) :: r, ⟨b, h1, h2, h3⟩ => ⟨b, h1, fun hb => f t (h2 hb), fun hb => wHds.imp f (h3 hb)⟩
theorem Told.beh {F : Fx} {D A : Avoid} {H H1 : Hp} {σ : L2.St} {sl : List Sl} {P : Addr} {q : Str} (S : Sta X.K F D A H σ sl) (m : (P, q) ∈ Tabl.T) (t : Told P q H H1) : Beh D H H1 where
  ext := fun a o n e => t.ext a o (fun z => n (by rw [z]; exact (S.liv.tabs _ m).1)) e
  dice := fun d hd => ⟨fun ⟨a, b, c, h⟩ => ⟨a, b, c, t.ext _ _ (fun z => by
    obtain ⟨ps, t1, _⟩ := t.was
    rw [z, t1] at h; cases h) h⟩, fun r m2 h => t.tabs (fun e => Tabl.uniq _ m2 _ m e) h⟩
/-- what a lambda raises, as the def that tries it tells it -/
def wMet (em : Value → Value → Option Bool) (l : List (Value × Str)) (fine : Str) (wb : WEX) : WE := fun sl P => wb (fun cls _ => wHds em cls (fun t => P (.val (.str t))) l) sl fun _ => P (.val (.str fine))
end
end Tr


set_option Elab.async false
set_option linter.all false
set_option maxRecDepth 100000
set_option maxHeartbeats 0
/-! A lambda handed to a def that tries it, where the handlers answer any expression that looks at no name -/
namespace Tr
open PySem PySem.Spec PyProof.Rows L2 LamX
variable [Tabl]
section
variable {X : Cx}
def wHdsE (em : Value → Value → Option Bool) (cls : Value) (P : TE → Prop) : List (Value × TE) → Prop
  | [] => False
  | (c, t) :: r => ∃ b, em cls c = some b ∧ (b = true → P t) ∧ (b = false → wHdsE em cls P r)
def TTmetE (K : PySem.W.Frag) (Ng : List Str) (hds : List (Value × TE)) (fine : TE) : (XK → Hp → VK → Prop) → Hp → VK → Prop := fun tl H Q => ∀ f : Addr,
  tl (fun cls _ H' => wHdsE (PySem.W.exmOne K) cls (fun t => ∀ σ, t σ H' Q) hds) H fun _ H' => fine (L2.start Ng [V.ref f]) H' Q
inductive MetHE (K : PySem.W.Frag) (mg : Str → Option Value) (sg : Scope) : List ExceptHandler → List (Value × TE) → Prop
  | nil : MetHE K mg sg [] []
  | cons {x : Str} {e : Expr} {t : TE} {c : Value} {np p6 p7 : Pos} {hds : List ExceptHandler} {l : List (Value × TE)} (h1 : sg.names.lookup x = some .globalImplicit) (h2 : mg x = some c) (he : ∀ Z : Cx, Z.K = K → PE Z e t) (r : MetHE K mg sg hds l) (h3 : (x == ("__debug__" : Str)) = false := by decide) :
      MetHE K mg sg (.ExceptHandler (some (.Name x np)) none [.Return (some e) p6] p7 :: hds) ((c, t) :: l)
def hdE (l : List (Value × TE)) : List (Value × (Addr → Value → Option Addr → TS)) := l.map fun ct => (ct.1, fun _ _ _ => tRet ct.2)
theorem MetHE.ok {Z : Cx} {mg : Str → Option Value} {hds : List ExceptHandler} {l : List (Value × TE)} {sg : Scope} (h : MetHE Z.K mg sg hds l) (e : Z.env.scope = sg) (em : Z.mg = mg) : HdsOk Z hds (hdE l) := by
  induction h with
  | nil => exact .nil
  | cons h1 h2 he r h3 ih => exact .cons ⟨by subst e; exact h1, h3, .inl (by rw [em]; exact h2)⟩ (fun a oe cls d pn _ _ => pss_one (ps_ret (he _ rfl))) ih
end
/-! ### the reading -/
section
variable {X : Cx}
def wHdsW (em : Value → Value → Option Bool) (cls : Value) (P : WE → Prop) : List (Value × WE) → Prop
  | [] => False
  | (c, w) :: r => ∃ b, em cls c = some b ∧ (b = true → P w) ∧ (b = false → wHdsW em cls P r)
theorem wHdsW.to {em : Value → Value → Option Bool} {cls : Value} {K : PySem.W.Frag} {P : WE → Prop} {P' : TE → Prop} (f : ∀ w, P w → P' (eOf K w)) : ∀ {l : List (Value × WE)}, wHdsW em cls P l → wHdsE em cls P' (l.map fun cw => (cw.1, eOf K cw.2))
  | [], h => h
  | (c, t) :: r, ⟨b, h1, h2, h3⟩ => ⟨b, h1, fun hb => f t (h2 hb), fun hb => wHdsW.to f (h3 hb)⟩
inductive MetHW (K : PySem.W.Frag) (mg : Str → Option Value) (sg : Scope) : List ExceptHandler → List (Value × WE) → Prop
  | nil : MetHW K mg sg [] []
  | cons {x : Str} {e : Expr} {wv : WE} {c : Value} {np p6 p7 : Pos} {hds : List ExceptHandler} {l : List (Value × WE)} (h1 : sg.names.lookup x = some .globalImplicit) (h2 : mg x = some c) (he : ∀ Z : Cx, GE Z e wv) (r : MetHW K mg sg hds l) (h3 : (x == ("__debug__" : Str)) = false := by decide) :
      MetHW K mg sg (.ExceptHandler (some (.Name x np)) none [.Return (some e) p6] p7 :: hds) ((c, wv) :: l)
theorem MetHW.e {K : PySem.W.Frag} {mg : Str → Option Value} {sg : Scope} {hds : List ExceptHandler} {l : List (Value × WE)} (h : MetHW K mg sg hds l) : MetHE K mg sg hds (l.map fun cw => (cw.1, eOf K cw.2)) := by
  induction h with
  | nil => exact .nil
  | cons h1 h2 he r h3 ih => exact .cons h1 h2 (fun Z e => by subst e; exact he Z) ih h3
/-- what a lambda raises, as the def that tries it tells it -/
def wMetW (em : Value → Value → Option Bool) (l : List (Value × WE)) (fine : WE) (wb : WEX) : WE := fun sl P =>
  wb (fun cls _ => wHdsW em cls (fun w => ∀ n, w (List.replicate n .any) P) l) sl fun _ => ∀ n, fine (List.replicate n .any) P
theorem slots_any {K : PySem.W.Frag} {D A0 A : Avoid} {H : Hp} : ∀ σ : L2.St, Slots K D A0 A H σ (List.replicate σ.length .any)
  | [] => .nil
  | _ :: r => .cons (.inl rfl) (slots_any r)
theorem Sta.anew {K : PySem.W.Frag} {F : Fx} {D A : Avoid} {H : Hp} {σ : L2.St} {sl : List Sl} (S : Sta K F D A H σ sl) (σ' : L2.St) : Sta K F D A H σ' (List.replicate σ'.length .any) :=
  { S with
    slots := slots_any σ'
    dist := fun i j l l' ts ts' h _ _ => by
      have := List.mem_of_getElem? h
      cases (List.mem_replicate.mp this).2 }
end
end Tr


set_option Elab.async false
set_option linter.all false
set_option maxRecDepth 100000
set_option maxHeartbeats 0
/-! xs[::-1] of lists and tuples; a dict written out with constants -/
namespace HT
open PySem PySem.Spec PyProof.Rows
section
variable {prog : Program} {w : World} {A : Around} {E : Value → Shared → Prop} {s : Shared}
end
end HT
namespace Tr
open PySem PySem.Spec PyProof.Rows L2
variable [Tabl]
section
variable {X : Cx}
def tRevA (K : PySem.W.Frag) (te : TE) : TE := fun σ H Q => te σ H fun x H1 => ∃ a xs, x = .ref a ∧
  ((SqL K H1 a xs ∧ ∀ p, H1 p = none → Q (.ref p) (upd H1 p (.lst xs.reverse))) ∨ (SqT K H1 a xs ∧ ∀ p, H1 p = none → Q (.ref p) (upd H1 p (.tup xs.reverse))))
theorem RepAll.reverse {K : PySem.W.Frag} {A : Avoid} {H : Hp} : ∀ {vs : List V} {ts : List T}, RepAll K A H vs ts → RepAll K A H vs.reverse ts.reverse
  | _, _, .nil => .nil
  | _, _, .cons h r => by
    rw [List.reverse_cons, List.reverse_cons]
    exact (RepAll.reverse r).append (.cons h .nil)
def revT : T → Option T
  | .tup ts => some (.tup ts.reverse)
  | .lst ts => some (.lst ts.reverse)
  | .scr ts => some (.lst ts.reverse)
  | _ => none
/-- xs[::-1] -/
def wRev (a : WE) : WE := fun sl P => a sl fun x => ∃ s z, x.tree = some s ∧ revT s = some z ∧ P (.val z)
/-! ### a dict written out -/
inductive CPair (X : Cx) : Expr → Expr → Key → V → T → TE × TE → Prop
  | mk {k v : Expr} {kk : Key} {c : V} {t : T} (hk : PE X k (tC (kV kk))) (hv : PE X v (tC c)) (r : ∀ K A H, Rep K A H c t) : CPair X k v kk c t (tC (kV kk), tC c)
inductive CDisp (X : Cx) (pos : Pos) : List (Option Expr) → List Expr → List Key → List T → Prop
  | nil : CDisp X pos [] [] [] []
  | cons {k v : Expr} {ks : List (Option Expr)} {vs : List Expr} {kk : Key} {c : V} {t : T} {kks : List Key} {ts : List T} (hk : PE X k (tC (kV kk))) (hv : PE X v (tC c)) (hr : ∀ K A H, Rep K A H c t) (r : CDisp X pos ks vs kks ts) : CDisp X pos (some k :: ks) (v :: vs) (kk :: kks) (t :: ts)
theorem CDisp.ok {pos : Pos} {keys : List (Option Expr)} {values : List Expr} {kks : List Key} {ts : List T} (h : CDisp X pos keys values kks ts) :
    ∃ trs vs, PPs X pos keys values trs ∧ kks.length = vs.length ∧ kks.length = keys.length ∧ (∀ K A H, RepAll K A H vs ts) ∧ ∀ σ H (Q : List (V × V) → Hp → Prop), Q ((kks.zip vs).map fun kv => (kV kv.1, kv.2)) H → tPairs trs σ H Q := by
  induction h with
  | nil => exact ⟨[], [], pps_nil, rfl, rfl, fun _ _ _ => .nil, fun _ _ _ h => h⟩
  | cons hk hv hr r ih =>
    obtain ⟨trs, vs, p, l, l2, ra, run⟩ := ih
    exact ⟨_, _, pps_cons hk hv p, congrArg (· + 1) l, congrArg (· + 1) l2, fun K A H => .cons (hr K A H) (ra K A H), fun σ H Q h => run σ H _ h⟩
def wDCon (ks : List Key) (ts : List T) : WD := fun _ P => P ks ts
end
end Tr


set_option Elab.async false
set_option linter.all false
set_option maxRecDepth 100000
set_option maxHeartbeats 0
/-! Defs and methods that may raise, called by name -/
namespace Tr
open PySem PySem.Spec PyProof.Rows L2
variable [Tabl]
/-- a wish that doesn't speak of the slots -/
abbrev WC (E : XK) : L2.WX := fun cls d _ H => E cls d H
def CallX (P : Program) (w : World) (K : PySem.W.Frag) (mg : Str → Option Value) (base : Heap) (k : Nat) (x : Str) (wf : WFX) (dvs : List V) : Prop :=
  ∃ (f : Addr) (fd : FuncData) (ps : List Str) (ds : List Value), FnOk P w K mg base (L2.CX P w) k f fd ps (spX K wf) ∧ mg x = some (.ref f) ∧ PySem.W.keepIn K (.ref f) = true ∧ Binds K fd ps ds ∧ Vals dvs ds
def MethX (P : Program) (w : World) (K : PySem.W.Frag) (mg : Str → Option Value) (base : Heap) (k : Nat) (C : Addr) (m : Str) (wf : WFX) (dvs : List V) : Prop :=
  ∃ (f : Addr) (fd : FuncData) (ps : List Str) (ds : List Value), FnOk P w K mg base (L2.CX P w) k f fd ps (spX K wf) ∧ Meth K C m f ∧ Binds K fd ps ds ∧ Vals dvs ds
section
variable {X : Cx} {W : L2.WX} {E : XK}
theorem gxe_callX {j k : Nat} {wf : WFX} {dvs : List V} {dts : List T} {x : Str} {e : Expr} {es : List Expr} {a : WA} {p pos : Pos} (tk : Takes X W) (d : CallX X.prog X.w X.K X.mg X.base k x wf dvs) (hr : Room j X.A) (hg : Gl X x) (hc : CTs dvs dts)
    (ha : GA X (e :: es) a) (hkj : k ≤ j := by decide) (hdb : (x == ("__debug__" : Str)) = false := by decide) (he : starEach (e :: es) X.env = (false, eval e X.env) :: starEach es X.env := by rfl) (hpl : (backTo pos (starEach es X.env)).any (·.1) = false := by rfl) :
    GEX X W (.Call (.Name x p) (e :: es) [] pos) (xCall wf dts a) := by
  obtain ⟨f, fd, ps, ds, F, hm, hk, hb, hd⟩ := d
  exact gxe_call tk F (hr.mono hkj) hg hm hk hb hd hc ha hdb he hpl
def xMeth (C : Addr) (m : Str) (wf : WFX) (dts : List T) (o : WE) (a : WA) : WEX := fun R sl P => o sl fun x => ∃ ns ts, x = .val (.ins C ns ts) ∧ m ∉ ns ∧ a sl fun xs => xs.all isArg = true ∧ wf R (x :: (xs ++ dts.map Sl.val)) P
theorem gxe_methX {k j : Nat} {C : Addr} {m : Str} {wf : WFX} {dvs : List V} {dts : List T} {o e : Expr} {es : List Expr} {wo : WE} {a : WA} {apos pos : Pos} {pl : Sem Bool} (tk : Takes X (WC E)) (d : MethX X.prog X.w X.K X.mg X.base k C m wf dvs) (cl : Cls X.K C) (hr : Room j X.A) (hc : CTs dvs dts) (ho : GE X o wo) (ha : GA X (e :: es) a) (hkj : k ≤ j := by decide)
    (hst : starEach (e :: es) X.env = (false, eval e X.env) :: starEach es X.env := by rfl) (hpl : (backTo pos (starEach es X.env)).any (·.1) = false := by rfl)
    (ht : eval (.Call (.Attribute o m apos) (e :: es) [] pos) X.env = (do
      let ov ← eval o X.env
      standAt apos.atName
      let (f, first) ← holding [ov] (getMethod ov m pl)
      callWith pos f first (backTo pos (starEach (e :: es) X.env)) (backToKw pos (keywordEach [] X.env))) := by rfl) :
    GEX X (WC E) (.Call (.Attribute o m apos) (e :: es) [] pos) (xMeth C m wf dts wo a) := by
  obtain ⟨f, fd, ps, ds, F, M, hb, hd⟩ := d
  refine gxe_of (pe_meth (E := E) ho cl M F (hr.mono hkj) hb hd (passes_call tk fun _ _ _ _ h => h) ha hst hpl ht) fun σ H Q ⟨G, D, A, sl, P, R, S, hw, q, q5⟩ => ⟨G, D, A, sl, _, S, hw, fun u H1 x b1 ok hx => ?_⟩
  obtain ⟨ns, ts, rfl, hm, hx⟩ := hx
  have r0 : Rep X.K A H1 u (.ins C ns ts) := ok
  obtain ⟨b, dx, vs, rfl, _, _, h1, _⟩ := Rep.insI r0
  refine ⟨b, dx, _, rfl, h1, lookup_none hm, G, D, A, sl, _, S.beh b1, hx, fun vs H2 xs b2 oks hy => ?_⟩
  obtain ⟨e1, hp⟩ := hy
  have S2 := (S.beh b1).beh b2
  have r2 : Rep X.K A H2 (.ref b) (.ins C ns ts) := r0.mono (ext_da S.dA b2.ext)
  refine ⟨D, A, _, P, R, S2.dice, S2.dA, S2.liv, .cons (show ArgOk X.K D A H2 (.ref b) (.val (.ins C ns ts)) from r2) (Paired.app (args_ok oks e1) hc.args), hp, fun v H' x b3 ok hx => q v H' x ((b1.trans b2).trans b3) ?_ hx, fun cls d o H' b3 hf hr => q5 H' cls d o ((b1.trans b2).trans b3) hf hr⟩
  cases x with
  | val t => exact ok
  | _ => exact ok.elim
end
section
variable {P : Program} {w : World} {K : PySem.W.Frag} {mg : Str → Option Value} {base : Heap} {x qual : Str} {params : Arguments} {body : List Stmt} {scope : Scope} {kws : List (Str × V)} {f : Addr} {fd : FuncData} {ps : List Str} {k : Nat} {wf : WFX}
/-- what raises nothing where it is called so, is a def that raises nothing -/
theorem FnOk.calm (G : FnOk P w K mg base (L2.CX P w) k f fd ps (spX K wf)) : FnOk P w K mg base CX0 k f fd ps (spT K (wf fun _ _ => False)) where
  len := fun vs H Q E h => by
    obtain ⟨D, A, xs, P', h1, h2, h3, h4, h5, q⟩ := h
    exact G.len vs H Q (fun _ _ _ => False) ⟨D, A, xs, P', _, h1, h2, h3, h4, h5, q, fun _ _ _ _ _ _ z => z.elim⟩
  run := fun A outer s H args us vs Q E hr e0 hb hv h => by
    obtain ⟨D, A', xs, P', h1, h2, h3, h4, h5, q⟩ := h
    refine codeAny_mono (G.run A outer s H args us vs Q (fun _ _ _ => False) hr e0 hb hv ⟨D, A', xs, P', _, h1, h2, h3, h4, h5, q, fun _ _ _ _ _ _ z => z.elim⟩) fun r s' hq => ?_
    cases r with
    | error e =>
      obtain ⟨_, _, _, _, _, _, _, _, _, _, _, _, z⟩ := hq
      exact z.elim
    | ok fl => cases fl <;> exact hq
end
end Tr


set_option Elab.async false
set_option linter.all false
set_option maxRecDepth 100000
set_option maxHeartbeats 0
/-! __init__ that may raise -/
namespace Tr
open PySem PySem.Spec PyProof.Rows L2
variable [Tabl]
abbrev WNX := RX → WN
def nOfX (K : PySem.W.Frag) (W : L2.WX) (i : Nat) (C : Addr) (w : WNX) : TS := fun E σ H => ∃ F D A sl p ns ts k R, Sta K F D A H σ sl ∧ SelfAt K F D A H σ i p C ns ts ∧ w R k sl ns ts ∧ (∀ H' ns' ts', Sta K F D A H' σ sl → SelfAt K F D A H' σ i p C ns' ts' → k ns' ts' → E.nx σ H') ∧
  ∀ H' cls d o, Sta K F D A H' σ sl → ExcF K A H' d o → R cls o → W cls d σ H'
abbrev GNX (X : Cx) (W : L2.WX) (i : Nat) (C : Addr) (st : Stmt) (w : WNX) : Prop := PS X st (nOfX X.K W i C w)
abbrev GNXs (X : Cx) (W : L2.WX) (i : Nat) (C : Addr) (sts : List Stmt) (w : WNX) : Prop := PSs X sts (nOfX X.K W i C w)
section
variable {X : Cx} {W : L2.WX} {i : Nat} {C : Addr}
theorem gnx_of {st : Stmt} {t : TS} {w : WNX} (h : PS X st t) (s : ∀ E σ H, nOfX X.K W i C w E σ H → t E σ H) : GNX X W i C st w := ⟨fun pins sh σ H E I q => h.run pins sh σ H E I (s E σ H q)⟩
def xnL (w : WN) : WNX := fun _ => w
theorem gnxs_lift {sts : List Stmt} {w : WN} (h : GNs X i C sts w) : GNXs X W i C sts (xnL w) := ⟨fun pins sh σ H E I ⟨F, D, A, sl, p, ns, ts, k, R, S, s, hw, q, _⟩ => h.run pins sh σ H E I ⟨F, D, A, sl, p, ns, ts, k, S, s, hw, q⟩⟩
def xnSeq (a b : WNX) : WNX := fun R k sl ns ts => a R (fun ns' ts' => b R k sl ns' ts') sl ns ts
theorem gnxs_cons {st : Stmt} {rest : List Stmt} {a b : WNX} (h : GNX X W i C st a) (h2 : GNXs X W i C rest b) : GNXs X W i C (st :: rest) (xnSeq a b) := ⟨fun pins sh σ H E I ⟨F, D, A, sl, p, ns, ts, k, R, S, s, hw, q, q5⟩ =>
  (pss_cons h h2).run pins sh σ H E I ⟨F, D, A, sl, p, ns, ts, _, R, S, s, hw, fun H' ns' ts' S' s' hb => ⟨F, D, A, sl, p, ns', ts', k, R, S', s', hb, q, q5⟩, q5⟩⟩
def xnIf (t : WT) (a b : WNX) : WNX := fun R k sl ns ts => t sl fun c => if c = true then a R k sl ns ts else b R k sl ns ts
def xnRaise (B : Addr) : WNX := fun R _ _ _ _ => R (.ref B) none
def xnDrop (e : WEX) : WNX := fun R k sl ns ts => e R sl fun _ => k ns ts
theorem gnx_expr {e : Expr} {pos : Pos} {w : WEX} (he : GEX X W e w) (hs : swapsWith e none pos.line X.env = pure false := by rfl) : GNX X W i C (.Expr e pos) (xnDrop w) := gnx_of (ps_expr he hs) fun E σ H ⟨F, D, A, sl, p, ns, ts, k, R, S, s, hw, q, q5⟩ =>
  ⟨F, D, A, sl, _, R, S, hw, fun v H1 x b1 ok hx => q H1 ns ts (S.beh b1) (s.beh S.dA b1) hx, fun H1 cls d o b1 hf hr => q5 H1 cls d o (S.beh b1) hf hr⟩
end
/-- what __init__ promises, or raises -/
abbrev WMX := RX → WM
def spNX (K : PySem.W.Frag) (C : Addr) (wf : WMX) : Sp := fun vs H Q E => ∃ D A p dx us H0 xs P R, vs = .ref p :: us ∧ H = upd (upd H0 dx (.own p)) p (.ins C dx []) ∧ H0 p = none ∧ H0 dx = none ∧ dx ≠ p ∧ (∀ d ∈ D, MovAt H0 d) ∧ (∀ d ∈ D, d ∈ A) ∧ Liv D A H0 ∧
  Paired (ArgOk K D A H0) us xs ∧ wf R xs P ∧ (∀ H' dx' ns ws ts, Beh D H0 H' → H' p = some (.ins C dx' (ns.zip ws)) → dx' ∉ A → H0 dx' = none → H' dx' = some (.own p) → ns.length = ws.length → RepAll K (p :: dx' :: A) H' ws ts → P ns ts → Q .non H') ∧ ∀ cls d o H', Beh D H0 H' → ExcF K A H' d o → R cls o → E cls d H'
def wInitX (n m : Nat) (ws : WNX) : WMX := fun R xs P => xs.length = n ∧ ws R P (.any :: (xs ++ List.replicate m .any)) [] []
section
variable {P : Program} {w : World} {K : PySem.W.Frag} {mg : Str → Option Value} {base : Heap}
theorem fn_initX {x qual : Str} {params : Arguments} {body : List Stmt} {scope : Scope} {dvs : List V} {kws : List (Str × V)} {f C : Addr} {fd : FuncData} {N ps : List Str} {k n m : Nat} {ws : WNX} (F : FunD K x qual params body scope dvs kws f fd) (S : FnScope N ps scope) (hn : ps.length = n + 1) (hm : N.length - (n + 1) = m)
    (hb : ∀ (cdv : Value) (A : Around) (outer : List Env) (s : Shared) (H : Hp) (E : XK), Room k (A.deeper (envOfC qual scope s.heap.objs.size f cdv)) → Takes (cxOf (L2.CX P w) P w K mg base N qual scope f cdv A outer s H E) (WC E) →
      GNXs (cxOf (L2.CX P w) P w K mg base N qual scope f cdv A outer s H E) (WC E) 0 C body ws) :
    FnOk P w K mg base (L2.CX P w) (k + 1) f fd ps (spNX K C (wInitX n m ws)) := by
  refine F.ok S (fun vs H Q E h => ?_) (fun cdv A outer s H vs Q E hr h => ?_)
  · obtain ⟨D, A, p, dx, us, H0, xs, P', R, rfl, _, _, _, _, _, _, _, h4, h5, _⟩ := h
    rw [List.length_cons, Paired.length_eq h4, h5.1, hn]
  · obtain ⟨D, A', p, dx, us, H0, xs, P', R, rfl, rfl, hp, hdx, hne, h1, h2, h3, h4, h5, q, q5⟩ := h
    have hl : us.length = n := by rw [Paired.length_eq h4, h5.1]
    have hL : N.length - us.length.succ = m := by rw [hl]; exact hm
    have S0 := start_sta (K := K) (N := List.replicate (n + m) "") (m := m) h1 h2 h3 h4 (by rw [List.length_replicate, hl]; omega)
    have S1 := (S0.cons (some (.ref p))).grow (p := dx) (o := .own p) hdx
    have S2 := S1.grow (p := p) (o := .ins C dx []) (by rw [upd_ne (fun z => hne z.symm)]; exact hp)
    have e0 : L2.start N (.ref p :: us) = some (.ref p) :: L2.start (List.replicate (n + m) "") us := by
      unfold L2.start
      rw [List.map_cons, List.length_cons, hL, List.length_replicate, hl, show n + m - n = m by omega]
      rfl
    have npA : p ∉ A' := fun z => h3.alive p z hp
    have ndA : dx ∉ A' := fun z => h3.alive dx z hdx
    refine ⟨_, hb cdv A outer s _ E hr (takes_of rfl rfl rfl rfl), ⟨D, A', H0, [], []⟩, D, p :: dx :: A', _, p, [], [], P', R, (by rw [e0]; exact S2), ⟨by rw [e0]; rfl, dx, [], List.mem_cons_self, npA, fun z => npA (h2 p z), List.mem_cons_of_mem _ List.mem_cons_self, ndA, fun z => ndA (h2 dx z), upd_same, by rw [upd_ne hne, upd_same], rfl, .nil⟩, h5.2, fun H' ns' ts' S' s' hk => ?_, fun H' cls d o S' hf hr => q5 cls d o H' ⟨S'.ext, S'.keep⟩ (hf.sub S'.sub) hr⟩
    obtain ⟨dx', vs', g1, g2, g3, g4, g5, g6, g7, g8, g9, g10⟩ := s'.obj
    exact q H' dx' ns' vs' ts' ⟨S'.ext, S'.keep⟩ g7 g5 ((S'.base dx' g4).resolve_left g5) g8 g9 (g10.sub fun a ha => (List.mem_cons.mp ha).elim (fun z => by rw [z]; exact g1) fun ha => (List.mem_cons.mp ha).elim (fun z => by rw [z]; exact g4) fun ha => List.mem_cons_of_mem _ (List.mem_cons_of_mem _ ha)) hk
def MakeX (P : Program) (w : World) (K : PySem.W.Frag) (mg : Str → Option Value) (base : Heap) (k : Nat) (x : Str) (C : Addr) (dts : List T) (wf : WMX) : Prop :=
  ∃ (f : Addr) (fd : FuncData) (ps : List Str) (ds : List Value) (dvs : List V), Mk K C f ∧ FnOk P w K mg base (L2.CX P w) k f fd ps (spNX K C wf) ∧ mg x = some (.ref C) ∧ Binds K fd ps ds ∧ Vals dvs ds ∧ ∀ A H, RepAll K A H dvs dts
def xMake (C : Addr) (dts : List T) (wf : WMX) (a : WA) : WEX := fun R sl P => a sl fun xs => xs.all isArg = true ∧ wf R (xs ++ dts.map Sl.val) fun ns ts => P (.val (.ins C ns ts))
end
section
variable {X : Cx} {E : XK}
theorem gxe_makeX {k j : Nat} {C : Addr} {dts : List T} {wf : WMX} {x : Str} {e : Expr} {es : List Expr} {a : WA} {p pos : Pos} (tk : Takes X (WC E)) (d : MakeX X.prog X.w X.K X.mg X.base k x C dts wf) (hr : Room j X.A) (hg : Gl X x) (ha : GA X (e :: es) a) (hkj : k + 1 ≤ j := by decide)
    (hdb : (x == ("__debug__" : Str)) = false := by decide) (he : starEach (e :: es) X.env = (false, eval e X.env) :: starEach es X.env := by rfl) (hpl : (backTo pos (starEach es X.env)).any (·.1) = false := by rfl) :
    GEX X (WC E) (.Call (.Name x p) (e :: es) [] pos) (xMake C dts wf a) := by
  obtain ⟨f, fd, ps, ds, dvs, M, F, hm, hb, hd, hr2⟩ := d
  refine gxe_of (pe_make (E := E) M F (hr.mono hkj) hg hm hb hd (passes_call tk fun _ _ _ _ h => h) ha hdb he hpl) fun σ H Q ⟨G, D, A, sl, P, R, S, hw, q, q5⟩ => ⟨G, D, A, sl, _, S, hw, fun vs H1 xs b1 oks hx => ?_⟩
  obtain ⟨e1, hp⟩ := hx
  have S1 := S.beh b1
  refine fun x dx hx hdx hne => ⟨D, A, x, dx, vs ++ dvs, H1, _, _, R, rfl, rfl, hx, hdx, hne, S1.dice, S1.dA, S1.liv, Paired.app (args_ok oks e1) ((hr2 A H1).args (D := D)), hp, fun H' dx' ns ws ts be g1 g2 _ g3 g4 g5 hP => ⟨rfl, ?_⟩, fun cls d o H' be hf hr => q5 H' cls d o (b1.trans be) hf hr⟩
  exact q (.ref x) H' (.val (.ins C ns ts)) (b1.trans be) (Rep.ins (fun z => S1.alive x z hx) g2 g1 g3 g4 (g5.sub fun a ha => List.mem_cons_of_mem _ (List.mem_cons_of_mem _ ha))) hP
end
end Tr


set_option Elab.async false
set_option linter.all false
set_option maxRecDepth 100000
set_option maxHeartbeats 0
/-! Defs that make lambdas: their code object is known; calls without arguments of what may raise -/
namespace Tr
open PySem PySem.Spec PyProof.Rows L2
variable [Tabl]
section
variable {P : Program} {w : World} {K : PySem.W.Frag} {mg : Str → Option Value} {base : Heap}
end
section
variable {X : Cx} {W : L2.WX} {E : XK}
theorem gxe_methX0 {k j : Nat} {C : Addr} {m : Str} {wf : WFX} {dvs : List V} {dts : List T} {o : Expr} {wo : WE} {apos pos : Pos} {pl : Sem Bool} (tk : Takes X (WC E)) (d : MethX X.prog X.w X.K X.mg X.base k C m wf dvs) (cl : Cls X.K C) (hr : Room j X.A) (hc : CTs dvs dts) (ho : GE X o wo) (hkj : k ≤ j := by decide)
    (ht : eval (.Call (.Attribute o m apos) [] [] pos) X.env = (do
      let ov ← eval o X.env
      standAt apos.atName
      let (f, first) ← holding [ov] (getMethod ov m pl)
      callWith pos f first (backTo pos (starEach [] X.env)) (backToKw pos (keywordEach [] X.env))) := by rfl) :
    GEX X (WC E) (.Call (.Attribute o m apos) [] [] pos) (xMeth C m wf dts wo waNil) := by
  obtain ⟨f, fd, ps, ds, F, M, hb, hd⟩ := d
  refine gxe_of (pe_meth0 (E := E) ho cl M F (hr.mono hkj) hb hd (passes_call tk fun _ _ _ _ h => h) ht) fun σ H Q ⟨G, D, A, sl, P, R, S, hw, q, q5⟩ => ⟨G, D, A, sl, _, S, hw, fun u H1 x b1 ok hx => ?_⟩
  obtain ⟨ns, ts, rfl, hm, e1, hp⟩ := hx
  have r0 : Rep X.K A H1 u (.ins C ns ts) := ok
  have S1 := S.beh b1
  obtain ⟨b, dx, vs, rfl, _, _, h1, _⟩ := Rep.insI r0
  refine ⟨b, dx, _, rfl, h1, lookup_none hm, D, A, _, P, R, S1.dice, S1.dA, S1.liv, .cons (show ArgOk X.K D A H1 (.ref b) (.val (.ins C ns ts)) from r0) hc.args, hp, fun v H' x b3 ok hx => q v H' x (b1.trans b3) ?_ hx, fun cls d o H' b3 hf hr => q5 H' cls d o (b1.trans b3) hf hr⟩
  cases x with
  | val t => exact ok
  | _ => exact ok.elim
/-- an exception class of one's own over ValueError -/
def ExD (K : PySem.W.Frag) (C : Addr) : Prop := PySem.W.excIn K C He.veBase "ValueError.__new__" = true ∧ PySem.W.keepIn K (.ref C) = true ∧ PySem.W.subIn K (.ref C) (.type "BaseException") = some true ∧ PySem.W.typeIn K (.ref C) = some (.type "type")
theorem gx_raiseV {x m : Str} {C : Addr} {j : Nat} {p p2 pos pos' : Pos} (hc : X.calm = true) (tk : Takes X W) (ex : ExD X.K C) (gC : X.mg x = some (.ref C)) (hg : Gl X x) (hdb : (x == ("__debug__" : Str)) = false := by decide) :
    GSX X W (.Raise (some (.Call (.Name x p) [.Constant (.str m) j p2] [] pos)) none pos') (xRaise C) := gx_raise hc tk PySem.F.excBase_ValueError ex.1 gC ex.2.1 (raises_own ex.2.2.1 ex.2.2.2) hg hdb
end
section
variable {P : Program} {w : World} {K : PySem.W.Frag} {mg : Str → Option Value} {base : Heap}
theorem CallX.of {x qual : Str} {params : Arguments} {body : List Stmt} {scope : Scope} {kws : List (Str × V)} {f : Addr} {fd : FuncData} {ps : List Str} {k : Nat} {wf : WFX} (F : FunD K x qual params body scope [] kws f fd) (G : FnOk P w K mg base (L2.CX P w) k f fd ps (spX K wf)) (hm : mg x = some (.ref f))
    (h : ∀ (kV doc pm : Value) (an : Option Addr) (cdv ct : Value) (us : List Value), us.length = ps.length → bindArgs (PySem.W.fnOf x qual params body scope .none kV doc pm an cdv ct) ⟨us, []⟩ = pure (ps.zip us)) : CallX P w K mg base k x wf [] :=
  ⟨f, fd, ps, [], G, hm, F.kp, F.bindsN h, .nil⟩
theorem CallX.calm {k : Nat} {x : Str} {wf : WFX} {dvs : List V} (d : CallX P w K mg base k x wf dvs) : CallD P w K mg base k x (wf fun _ _ => False) dvs := by
  obtain ⟨f, fd, ps, ds, F, hm, hk, hb, hd⟩ := d
  exact ⟨f, fd, ps, ds, FnOk.calm F, hm, hk, hb, hd⟩
theorem MethX.calm {k : Nat} {C : Addr} {m : Str} {wf : WFX} {dvs : List V} (d : MethX P w K mg base k C m wf dvs) : MethD P w K mg base k C m (wf fun _ _ => False) dvs := by
  obtain ⟨f, fd, ps, ds, F, M, hb, hd⟩ := d
  exact ⟨f, fd, ps, ds, FnOk.calm F, M, hb, hd⟩
end
end Tr


set_option Elab.async false
set_option linter.all false
set_option maxRecDepth 100000
set_option maxHeartbeats 0
/-! more statements and expressions over trees -/
namespace Tr
open PySem PySem.Spec PyProof.Rows L2
variable [Tabl]
section
variable {X : Cx} {K : PySem.W.Frag}
/-! ### x //= e -/
def wAugD (i : Nat) (e : WE) : WS := fun k sl => ∃ a, nth sl i = .val (.int a) ∧ e sl fun x => ∃ b, x = .val (.int b) ∧ divOk b = true ∧ k.nx (sl.set i (.val (.int (a / b))))
/-! ### x.append(y.pop(e)), x and y lists of one's own -/
def wAppPop (i j : Nat) (e : WE) : WS := fun k sl => ∃ l ts l' us, nth sl i = .own l ts ∧ nth sl j = .own l' us ∧ i ≠ j ∧ ts.length < 1000000 ∧ us.length < 1000000 ∧ e sl fun x => ∃ (n : Int) (c : Nat) (t : T), x = .val (.int n) ∧ seqIndex? n us.length = some c ∧ us[c]? = some t ∧ k.nx ((sl.set j (.own l' (us.eraseIdx c))).set i (.own l (ts ++ [t])))
end
end Tr


set_option Elab.async false
set_option linter.all false
set_option maxRecDepth 100000
set_option maxHeartbeats 0
/-! sorted, max, min over trees that are data -/
namespace L2
open PySem PySem.Spec PyProof.Rows
/-- sorted(xs), xs a list of data (R0 tells of each item what it stands for) -/
def rSortD (K : PySem.W.Frag) : List V → Hp → VK → Prop := fun vs H Q => ∃ (β : Type) (enc : β → PyData) (R0 : V → β → Prop) (a : Addr) (xs : List V) (bs : List β), vs = [V.ref a] ∧ SqL K H a xs ∧ PySem.W.EachIs R0 xs bs ∧ (∀ v b, R0 v b → Dp K H v (enc b)) ∧
  PySem.W.AllAlike (bs.map enc) ∧ PySem.W.Sortable (bs.map enc) ∧ (∀ b ∈ bs, (enc b).depth ≤ 60) ∧ ∀ out p, PySem.W.EachIs R0 out (bs.mergeSort (PySem.W.dataLe false enc)) → H p = none → Q (.ref p) (upd H p (.lst out))
section
variable {X : Cx}
/-- max(xs, default=d), min(xs, default=d): xs a list of whole numbers -/
def rMaxDf (K : PySem.W.Frag) : List V → List V → Hp → VK → Prop := fun vs zs H Q => ∃ (a : Addr) (ns : List Int) (d : Int), vs = [V.ref a] ∧ zs = [V.int d] ∧ SqL K H a (ns.map V.int) ∧ Q (.int (match ns with | [] => d | n :: r => r.foldl max n)) H
def rMinDf (K : PySem.W.Frag) : List V → List V → Hp → VK → Prop := fun vs zs H Q => ∃ (a : Addr) (ns : List Int) (d : Int), vs = [V.ref a] ∧ zs = [V.int d] ∧ SqL K H a (ns.map V.int) ∧ Q (.int (match ns with | [] => d | n :: r => r.foldl min n)) H
theorem map_cons {ns : List Int} {y : PyData} {ys : List PyData} (e : ns.map PyData.int = y :: ys) : ∃ n r, ns = n :: r ∧ y = .int n ∧ ys = r.map .int := by
  cases ns with
  | nil => cases e
  | cons n r => cases e; exact ⟨n, r, rfl, rfl, rfl⟩
end
end L2
namespace Tr
open PySem PySem.Spec PyProof.Rows L2
variable [Tabl]
section
variable {X : Cx} {K : PySem.W.Frag}
/-- max(xs, default=d) of a list of whole numbers -/
def wDf (f : Int → Int → Int) (a d : WA) : WE := fun sl P => a sl fun xs => d sl fun ys => ∃ (x : Sl) (ns : List Int) (i : Int), xs = [x] ∧ x.tree = some (.lst (ns.map T.int)) ∧ ys = [.val (.int i)] ∧ P (.val (.int (match ns with | [] => i | n :: r => r.foldl f n)))
/-! sorted(xs): a new list -/
def datD (t : T) : PyData := (dat t).getD .none
/-- trees that sorted takes -/
structure Srt (ts : List T) : Prop where
  dat : ∀ t ∈ ts, (dat t).isSome
  alike : PySem.W.AllAlike (ts.map datD)
  able : PySem.W.Sortable (ts.map datD)
  deep : ∀ t ∈ ts, (datD t).depth ≤ 60
def sortT (ts : List T) : List T := ts.mergeSort (PySem.W.dataLe false datD)
def wSorted (a : WA) : WL := fun sl P => a sl fun xs => ∃ x ts, xs = [x] ∧ x.tree = some (.lst ts) ∧ Srt ts ∧ P (sortT ts)
end
end Tr


set_option linter.all false
set_option maxRecDepth 100000
/-! sorted of a tuple: its items are taken over into a new list first -/
namespace L2
open PySem PySem.Spec PyProof.Rows PySem.W
section
variable {prog : Program} {w : World} {A : Around} {E : Value → Shared → Prop} {s : Shared}
end
section
variable {X : Cx}
def rSortTp (K : PySem.W.Frag) : List V → Hp → VK → Prop := fun vs H Q => ∃ (β : Type) (enc : β → PyData) (R0 : V → β → Prop) (a : Addr) (xs : List V) (bs : List β), vs = [V.ref a] ∧ SqT K H a xs ∧ PySem.W.EachIs R0 xs bs ∧ (∀ v b, R0 v b → Dp K H v (enc b)) ∧ PySem.W.AllAlike (bs.map enc) ∧ PySem.W.Sortable (bs.map enc) ∧ (∀ b ∈ bs, (enc b).depth ≤ 60) ∧
  ∀ (out : List V) (p : Addr), PySem.W.EachIs R0 out (bs.mergeSort (PySem.W.dataLe false enc)) → H p = none → Q (.ref p) (upd H p (.lst out))
end
end L2
namespace Tr
open PySem PySem.Spec PyProof.Rows L2
variable [Tabl]
section
variable {X : Cx} {K : PySem.W.Frag}
def wSortedT (a : WA) : WL := fun sl P => a sl fun xs => ∃ ts, xs = [.val (.tup ts)] ∧ Srt ts ∧ P (sortT ts)
end
end Tr


set_option Elab.async false
set_option linter.all false
set_option maxRecDepth 100000
set_option maxHeartbeats 0
/-! set(xs), xs a list of whole numbers and texts; len(set(xs)) -/
namespace SK
open PySem PySem.Spec PyProof.Rows L2
section
variable {κ : Type} [DecidableEq κ]
def stepD (l : List κ) (v : κ) : List κ := if v ∈ l then l else l ++ [v]
def firstsN (val : Nat → κ) : Nat → List κ
  | 0 => []
  | i + 1 => stepD (firstsN val i) (val i)
theorem firstsN_len (val : Nat → κ) : ∀ i, (firstsN val i).length ≤ i
  | 0 => Nat.le_refl _
  | i + 1 => by
    have ih := firstsN_len val i
    show (stepD (firstsN val i) (val i)).length ≤ i + 1
    unfold stepD
    split
    · omega
    · rw [List.length_append, List.length_singleton]; omega
theorem stepD_mem {l : List κ} {v k : κ} : k ∈ stepD l v ↔ k ∈ l ∨ k = v := by
  unfold stepD
  split
  · rename_i h
    exact ⟨.inl, fun z => z.elim id fun e => e ▸ h⟩
  · rw [List.mem_append, List.mem_singleton]
theorem stepD_len (l : List κ) (v : κ) : (stepD l v).length = if decide (v ∈ l) = true then l.length else l.length + 1 := by
  unfold stepD
  by_cases h : v ∈ l
  · rw [if_pos h, if_pos (decide_eq_true h)]
  · rw [if_neg h, if_neg (by rw [decide_eq_false h]; exact Bool.false_ne_true), List.length_append]
    rfl
/-- the members of a list, each once -/
def firsts (l : List κ) : List κ := l.foldl stepD []
theorem firstsN_list (l : List κ) (d : κ) : ∀ i, i ≤ l.length → firstsN (fun i => l.getD i d) i = firsts (l.take i)
  | 0, _ => rfl
  | i + 1, h => by
    have e : l.take (i + 1) = l.take i ++ [l[i]] := by rw [List.take_add_one, List.getElem?_eq_getElem (by omega)]; rfl
    show stepD (firstsN _ i) _ = _
    rw [firstsN_list l d i (by omega), e]
    unfold firsts
    rw [List.foldl_append]
    show stepD _ (l.getD i d) = stepD _ l[i]
    rw [List.getD_eq_getElem?_getD, List.getElem?_eq_getElem (by omega)]
    rfl
end
section
variable {prog : Program} {w : World} {A : Around} {R : Result → Shared → Prop} {I : Addr} {fp wr : List Addr} {G : Array GenState → Array GenState → Prop} {n : Nat} {P : Nat → Value → Prop} {St : Nat → Shared → Prop}
end
section
variable {P : Program} {w : World} {A : Around} {E : Value → Shared → Prop} {s : Shared}
end
/-- len(set(xs)), xs a list of whole numbers and texts -/
def tLenK (K : PySem.W.Frag) (ta : TE) : TE := fun σ H Q => ta σ H fun x H1 => ∃ (l : Addr) (ks : List Key), x = .ref l ∧ SqL K H1 l (ks.map kV) ∧ ks.length ≤ 4000 ∧ Q (.int ((firsts ks).length : Nat)) H1
end SK
namespace Tr
open PySem PySem.Spec PyProof.Rows L2
variable [Tabl]
section
variable {X : Cx} {K : PySem.W.Frag}
/-- the keys that trees are -/
def keysT : List T → Option (List Key)
  | [] => some []
  | t :: r => (keyT t).bind fun k => (keysT r).map fun ks => k :: ks
def wLenSet (a : WE) : WE := fun sl P => a sl fun x => ∃ ts ks, x.tree = some (.lst ts) ∧ keysT ts = some ks ∧ ks.length ≤ 4000 ∧ P (.val (.int ((SK.firsts ks).length : Nat)))
end
end Tr


set_option Elab.async false
set_option linter.all false
set_option maxRecDepth 100000
set_option maxHeartbeats 0
/-! max, min of three whole numbers -/
namespace M3
open PySem PyProof.Rows
section
variable {prog : Program} {w : World} {A : Around} {E : Value → Shared → Prop} {s : Shared}
end
end M3
namespace L2
open PySem PySem.Spec PyProof.Rows
section
variable {X : Cx}
end
end L2
namespace Tr
open PySem PySem.Spec PyProof.Rows L2
section
variable {K : PySem.W.Frag} {A : Avoid} {H : Hp}
def max3T : List T → Option T
  | [.int i, .int j, .int l] => some (.int (max (max i j) l))
  | _ => none
def min3T : List T → Option T
  | [.int i, .int j, .int l] => some (.int (min (min i j) l))
  | _ => none
end
end Tr


set_option Elab.async false
set_option linter.all false
set_option maxRecDepth 100000
set_option maxHeartbeats 0
/-! xs == [], xs != [] of lists of any items -/
namespace L2
open PySem PySem.Spec PyProof.Rows
def rEmp (K : PySem.W.Frag) (g : Bool → Bool) : R2 := fun x y H Q => ∃ (a b : Addr) (xs : List V), x = .ref a ∧ y = .ref b ∧ SqL K H a xs ∧ SqL K H b [] ∧ Q (.bl (g xs.isEmpty)) H
section
variable {X : Cx}
end
end L2
namespace Tr
open PySem PySem.Spec PyProof.Rows L2
section
variable {K : PySem.W.Frag}
def neE : T → T → Option T
  | .lst ts, .lst [] => some (.bl (!ts.isEmpty))
  | _, _ => none
def eqE : T → T → Option T
  | .lst ts, .lst [] => some (.bl ts.isEmpty)
  | _, _ => none
end
end Tr
namespace L2
open PySem PySem.Spec PyProof.Rows
end L2
namespace Tr
open PySem PySem.Spec PyProof.Rows L2
variable [Tabl]
section
variable {K : PySem.W.Frag}
/-- x in a list of data -/
def inD (neg : Bool) (x t : T) : Option T := match t with
  | .lst ts => if (shp x && shp (.lst ts)) = true then some (.bl (if neg = true then !(ts.any fun y => eqB y x) else ts.any fun y => eqB y x)) else none
  | _ => none
end
section
variable {X : Cx} {K : PySem.W.Frag}
/-! ### not e as a value, by truth -/
def wNotT (a : WE) : WE := fun sl P => a sl fun x => ∃ t b, x.tree = some t ∧ truT t = some b ∧ P (.val (.bl (!b)))
end
end Tr


set_option Elab.async false
set_option linter.all false
set_option maxRecDepth 100000
set_option maxHeartbeats 0
/-! t == () of a tuple of any items -/
namespace L2
open PySem PySem.Spec PyProof.Rows
def rEmT (K : PySem.W.Frag) : R2 := fun x y H Q => ∃ (a b : Addr) (xs : List V), x = .ref a ∧ y = .ref b ∧ SqT K H a xs ∧ SqT K H b [] ∧ Q (.bl xs.isEmpty) H
section
variable {X : Cx}
end
end L2
namespace Tr
open PySem PySem.Spec PyProof.Rows L2
section
variable {K : PySem.W.Frag}
def eqU : T → T → Option T
  | .tup ts, .tup [] => some (.bl ts.isEmpty)
  | _, _ => none
end
end Tr


set_option Elab.async false
set_option linter.all false
set_option maxRecDepth 100000
set_option maxHeartbeats 0
/-! x is True, x is False; rows that are never reached -/
namespace L2
open PySem PySem.Spec PyProof.Rows
def rIs2 (g : Bool → Bool) : R2 := fun x y H Q => ∃ b c, x = .bl b ∧ y = .bl c ∧ Q (.bl (g (b == c))) H
section
variable {X : Cx}
end
end L2
namespace Tr
open PySem PySem.Spec PyProof.Rows L2
variable [Tabl]
section
variable {X : Cx} {K : PySem.W.Frag}
def is2 (g : Bool → Bool) : T → T → Option T
  | .bl b, .bl c => some (.bl (g (b == c)))
  | _, _ => none
/-! ### what is never reached -/
def wDead : WS := fun _ _ => False
def wDeadE : WE := fun _ _ => False
end
end Tr
namespace Tr
open PySem PySem.Spec PyProof.Rows L2
variable [Tabl]
section
variable {X : Cx} {K : PySem.W.Frag}
/-- f(_law_dice(..)): the dice are made for the call alone -/
def wOnDice (pre : List Sl → Prop) (wf : WF) (a : WA) : WE := fun sl P => a sl fun xs => xs.all isArg = true ∧ pre xs ∧ wf [.dice] P
theorem se_onDice {pre : List Sl → Prop} {wf : WF} {a : WA} : SE K (tCall (spT K wf) [] C8.E0 (tCons (tCall (spD K pre) [] C8.E0 (aOf K a)) tNil)) (wOnDice pre wf a) := fun F D A H σ sl P Q S hw q =>
  ⟨F, D, A, sl, _, S, hw, fun vs H1 xs b1 oks hx => by
    obtain ⟨e1, hp, hn⟩ := hx
    have S1 := S.beh b1
    refine ⟨D, A, xs, S1.dice, S1.dA, S1.liv, by rw [List.append_nil]; exact args_ok oks e1, hp, fun p H' x y z be hpn hpA hv => ?_⟩
    have b2 := b1.trans be
    have S2 := S.beh b2
    have mem : ∀ {d}, d ∈ D → d ∈ p :: D := fun h => List.mem_cons_of_mem _ h
    refine ⟨p :: D, p :: A, [.dice], P, fun d hd => ?_, fun d hd => ?_, ⟨fun d hd => ?_, fun r hr => ⟨mem (S2.liv.tabs r hr).1, (S2.liv.tabs r hr).2⟩⟩, .cons ⟨p, rfl, List.mem_cons_self, x, y, z, hv⟩ .nil, hn, fun v H2 u b3 ok hu => q v H2 u ⟨fun d o n e => ?_, fun d hd => ?_⟩ ?_ hu⟩
    · rcases List.mem_cons.mp hd with rfl | h
      · exact .inl ⟨x, y, z, hv⟩
      · exact S2.dice d h
    · rcases List.mem_cons.mp hd with rfl | h
      · exact List.mem_cons_self
      · exact List.mem_cons_of_mem _ (S2.dA d h)
    · rcases List.mem_cons.mp hd with rfl | h
      · rw [hv]; exact fun z => nomatch z
      · exact S2.alive d h
    · refine b3.ext d o (fun h => ?_) (b2.ext d o n e)
      rcases List.mem_cons.mp h with rfl | h
      · rw [b1.ext _ o n e] at hpn; cases hpn
      · exact n h
    · exact (b2.dice d hd).trans (b3.dice d (mem hd))
    · cases u with
      | val t => exact Rep.sub (fun d hd => List.mem_cons_of_mem _ hd) ok
      | _ => exact ok.elim⟩
theorem ge_onDiceG {j k k' : Nat} {wf : WF} {pre : List Sl → Prop} {x y : Str} {e : Expr} {es : List Expr} {a : WA} {p q pos pos' : Pos} (d : CallG X.prog X.w X.K X.mg X.base k x wf []) (dd : DiceD X.prog X.w X.K X.mg X.base k' y pre) (g : NoG X.A) (hr : Room j X.A) (hg : Gl X x) (hg' : Gl X y) (ha : GA X (e :: es) a)
    (hkj : k ≤ j := by decide) (hkj' : k' ≤ j := by decide) (hdb : (x == ("__debug__" : Str)) = false := by decide) (hdb' : (y == ("__debug__" : Str)) = false := by decide) (he : starEach (e :: es) X.env = (false, eval e X.env) :: starEach es X.env := by rfl) (hpl : (backTo pos' (starEach es X.env)).any (·.1) = false := by rfl)
    (he2 : starEach [.Call (.Name y q) (e :: es) [] pos'] X.env = (false, eval (.Call (.Name y q) (e :: es) [] pos') X.env) :: starEach [] X.env := by rfl) (hpl2 : (backTo pos (starEach [] X.env)).any (·.1) = false := by rfl) :
    GE X (.Call (.Name x p) [.Call (.Name y q) (e :: es) [] pos'] [] pos) (wOnDice pre wf a) := by
  obtain ⟨f, fd, ps, ds, F, hm, hk, hb, hd⟩ := d
  obtain ⟨f', fd', ps', F', hm', hk', hb'⟩ := dd
  exact ge_of (pe_callG F g (hr.mono hkj) hg hm hk hb hd pass0 (pa_cons (pe_call F' (hr.mono hkj') hg' hm' hk' hb' .nil pass0 ha hdb' he hpl) pa_nil he2) hdb he2 hpl2) se_onDice
end
end Tr


set_option Elab.async false
set_option linter.all false
set_option maxRecDepth 100000
set_option maxHeartbeats 0
/-! the end of a law whose defs make lambdas, and may use repr of data -/
namespace L2
open PySem PySem.Spec PyProof.Rows LamX
section
variable {P : Program} {w : World} {K : PySem.W.Frag} {mg mb : Str → Option Value} {CX : CXT} {k : Nat} {fa a : Addr} {fd : FuncData} {x : Str} {sp : Sp} {S : Shared} {vs : List Value} {ns : List Int} {cs : List (Addr × Addr)}
abbrev emptyO : Obj := { cls := .none, data := .fields #[] }
/-- nothing but the script and the tables is tracked in H -/
structure OnlyT (P : Program) (w : World) (K : PySem.W.Frag) (S : Shared) (a : Addr) (cs : List (Addr × Addr)) (H : Hp) : Prop where
  only : ∀ b, H b = none ∨ b ∈ cs.map Prod.snd ∨ ∃ o xs, H b = some (.frz o (.lst xs))
  tab : ∀ p ∈ cs, H p.2 = some (.tbl #[])
  ok : HOk P w H S.heap
  at_ : ∀ b, H b ≠ none → b = a ∨ b ∈ cs.map Prod.snd
  out : H a ≠ none → K.lookup a = none
theorem tab_at (hT : ∀ p ∈ cs, S.heap.get? p.2 = some emptyO) {b : Addr} (h : b ∈ cs.map Prod.snd) : S.heap.get? b = some emptyO := by
  obtain ⟨p, hp, rfl⟩ := List.mem_map.mp h
  exact hT p hp
theorem OnlyT.free {H : Hp} (o : OnlyT P w K S a cs H) (ha : S.heap.get? a = some { cls := .type "list", data := .seq vs.toArray }) (hT : ∀ p ∈ cs, S.heap.get? p.2 = some emptyO) {b : Addr} {ob : Obj} (e : S.heap.get? b = some ob) (h1 : ∀ us n, ob.data ≠ .seq us n) (h2 : ob.data ≠ .fields #[]) : H b = none := by
  refine Classical.byContradiction fun z => ?_
  rcases o.at_ b z with q | q
  · subst q
    rw [ha] at e
    obtain rfl := Option.some.inj e
    exact h1 _ _ rfl
  · rw [tab_at hT q] at e
    obtain rfl := Option.some.inj e
    exact h2 rfl
theorem lawTG_at {H : Hp} (KX : K.In S.heap) (hns : S.heap.Ns mainGlobals mg) (hb : S.heap.Ns builtinsNs mb) (hbb : ∀ x : Str, x ≠ "__name__" → mb x = bootBuiltins x) (hlim : S.heap.NoLimit) (hg : S.gens = #[])
    (hT : ∀ p ∈ cs, S.heap.get? p.2 = some emptyO) (nT : ∀ p ∈ cs, K.lookup p.2 = none) (C : ∀ p ∈ cs, PySem.W.CodeHd S.heap p.1 p.2)
    (hbm : ∃ (bm : Addr) (ob : Obj), mg "__builtins__" = some (.ref bm) ∧ bm ≠ builtinsNs ∧ S.heap.get? bm = some ob ∧ ob.cls = .type "module" ∧ ob.dict = some builtinsNs ∧ ob.data = .plain)
    (ha : S.heap.get? a = some { cls := .type "list", data := .seq vs.toArray }) (hr : Room k callerA)
    (F : ∀ base : Heap, K.In base → base.Ns mainGlobals mg → (∀ p ∈ cs, TabB base mg p.1 p.2) → FnG P w K mg base CX k fa fd [x] sp) (hbind : ∀ (s : Shared) (u : Value), BindsTo s fd ⟨[u], []⟩ [(x, u)])
    (want : sp [.ref a] H (fun v _ => v = .bl true) fun _ _ _ => False) (hCX : ∀ H e s', CX [] H S (fun _ _ _ => False) e s' → False) (o : OnlyT P w K S a cs H) :
    codeAny (model P w) callerA (.call (.ref fa) ⟨[.ref a], []⟩) (Yes S) S := by
  have keep : ∀ {b : Addr} {ob : Obj}, S.heap.get? b = some ob → H b = none → (hidT S.heap H).get? b = some ob := fun e n => hidT_get e n
  have dct : ∀ {b : Addr} {ob : Obj} {es : Array DictEntry} {ep : Nat}, S.heap.get? b = some ob → ob.data = .dict es ep → H b = none := fun e d => o.free ha hT e (fun us n z => by rw [d] at z; exact nomatch z) fun z => by rw [d] at z; exact nomatch z
  have names : ∀ {b : Addr} {m : Str → Option Value}, S.heap.Ns b m → (hidT S.heap H).Ns b m := by
    rintro b m ⟨ob, es, ep, e, d, r⟩
    exact ⟨ob, es, ep, keep e (dct e d), d, r⟩
  have inB : K.In (hidT S.heap H) := by
    intro b ob e
    refine keep (KX b ob e) (Classical.byContradiction fun z => ?_)
    rcases o.at_ b z with q | q
    · subst q
      rw [o.out z] at e
      exact nomatch e
    · obtain ⟨p, hp, rfl⟩ := List.mem_map.mp q
      rw [nT p hp] at e
      exact nomatch e
  obtain ⟨mc, l1, l2⟩ := hlim
  have md : L2.Mod K mg (hidT S.heap H) := ⟨inB, names hns, ⟨mb, names hb, hbb⟩, ⟨mc, names l1, l2⟩⟩
  have env : Env0 P w K mg (hidT S.heap H) callerA [] S H :=
    { frames := rfl, mod := md, bs := fun b ob e => of_hidT e, bsz := Nat.le_of_eq (hidT_size _ _), funs := trivial, frf := fun b z => (List.not_mem_nil z).elim, hok := o.ok, bare := .of_eq hg }
  have tabs : ∀ p ∈ cs, TabB (hidT S.heap H) mg p.1 p.2 := by
    intro p hp
    have here := hT p hp
    constructor
    · obtain ⟨oc, us, file, tf, flags, tg, inF, text, tt, e1, r1, r2, r3, r4⟩ := C p hp
      refine ⟨oc, us, file, tf, flags, tg, inF, text, tt, keep e1 (o.free ha hT e1 (fun _ _ z => ?_) fun z => ?_), r1, r2, r3, r4⟩
      · rw [r2] at z; exact nomatch z
      · rw [r2] at z
        injection z with z
        rw [z] at r3
        exact nomatch r3
    · obtain ⟨bm, ob, b1, b2, b3, b4, b5, b6⟩ := hbm
      have n1 : bm ≠ mainGlobals := by
        rintro rfl
        obtain ⟨_, _, _, e, d, _⟩ := hns
        rw [e] at b3
        obtain rfl := Option.some.inj b3
        rw [d] at b6
        exact nomatch b6
      have n2 : bm ≠ p.2 := by
        rintro rfl
        rw [here] at b3
        obtain rfl := Option.some.inj b3
        exact nomatch b6
      exact ⟨bm, ob, b1, b2, n1, n2, keep b3 (o.free ha hT b3 (fun _ _ z => by rw [b6] at z; exact nomatch z) fun z => by rw [b6] at z; exact nomatch z), b4, b5, b6⟩
    · intro z
      obtain ⟨_, _, _, e, d, _⟩ := hns
      rw [z, here] at e
      obtain rfl := Option.some.inj e
      exact nomatch d
  apply codeAny_mono ((F _ inB (names hns) tabs).go callerA [] S H ⟨[.ref a], []⟩ [.ref a] [.ref a] _ _ rfl hr env (hbind S (.ref a)) (.cons rfl .nil) want)
  intro res s' hres
  match res, hres with
  | .error e, hres => exact (hCX H e s' hres).elim
  | .ok .next, hres => exact False.elim hres
  | .ok .brk, hres => exact False.elim hres
  | .ok .cont, hres => exact False.elim hres
  | .ok (.ret u), ⟨v, H2, h1, h2, un, ok2, rv, q⟩ =>
    obtain rfl : v = .bl true := q
    obtain rfl : u = Value.bool true := rv
    have same : ∀ b ob, b ∉ cs.map Prod.snd → S.heap.get? b = some ob → s'.heap.get? b = some ob := by
      intro b ob out e
      cases hb2 : H b with
      | none => exact un.keep b ob e hb2 (fun z => List.not_mem_nil z) (fun z => List.not_mem_nil z)
      | some u =>
        have tr := o.only b
        rw [hb2] at tr
        rcases tr with z | z | ⟨ob2, xs, z⟩
        · exact nomatch z
        · exact absurd z out
        · rw [z] at hb2
          have after := un.frzs b ob2 _ hb2
          have g1 := (o.ok b _ hb2).1
          have g2 := (ok2 b _ after).1
          rw [e] at g1
          cases g1
          exact g2
    have grew : ∀ p ∈ cs, ∃ more : Array Value, s'.heap.get? p.2 = some { cls := .none, data := .fields more } := by
      intro p hp
      obtain ⟨more, z⟩ := un.tbls p.2 #[] (o.tab p hp)
      exact ⟨_, ok2 p.2 _ z⟩
    refine ⟨rfl, ⟨?_, ?_⟩, h1, h2⟩
    · intro b ob e
      by_cases hb : b ∈ cs.map Prod.snd
      · obtain ⟨p, hp, rfl⟩ := List.mem_map.mp hb
        obtain ⟨more, hm⟩ := grew p hp
        rw [hT p hp] at e
        obtain rfl := Option.some.inj e
        exact .inr (.inl ⟨((C p hp).tab (hT p hp)).isCodeTable, rfl, #[], more, rfl, by rw [Array.empty_append]; exact hm⟩)
      · exact .inl (same b ob hb e)
    · intro b ob e
      by_cases hb : b ∈ cs.map Prod.snd
      · obtain ⟨p, hp, rfl⟩ := List.mem_map.mp hb
        obtain ⟨more, hm⟩ := grew p hp
        exact ⟨_, hm⟩
      · exact ⟨ob, same b ob hb e⟩
/-- the law's promise from a heap in which the script and the tables are told -/
def StartT (K : PySem.W.Frag) (cs : List (Addr × Addr)) (a : Addr) (ns : List Int) (H : Hp) : Prop :=
  (∀ p ∈ cs, H p.2 = some (.tbl #[])) ∧ (∀ b, H b = none ∨ b ∈ cs.map Prod.snd ∨ ∃ o xs, H b = some (.frz o (.lst xs))) ∧ a ∉ cs.map Prod.snd ∧ SqL K H a (ns.map V.int)
theorem lawTG_call (KX : K.In S.heap) (hns : S.heap.Ns mainGlobals mg) (hb : S.heap.Ns builtinsNs mb) (hbb : ∀ x : Str, x ≠ "__name__" → mb x = bootBuiltins x) (hlim : S.heap.NoLimit) (hg : S.gens = #[])
    (hT : ∀ p ∈ cs, S.heap.get? p.2 = some emptyO) (nT : ∀ p ∈ cs, K.lookup p.2 = none) (C : ∀ p ∈ cs, PySem.W.CodeHd S.heap p.1 p.2)
    (hbm : ∃ (bm : Addr) (ob : Obj), mg "__builtins__" = some (.ref bm) ∧ bm ≠ builtinsNs ∧ S.heap.get? bm = some ob ∧ ob.cls = .type "module" ∧ ob.dict = some builtinsNs ∧ ob.data = .plain)
    (ha : S.heap.get? a = some { cls := .type "list", data := .seq vs.toArray }) (hi : IntsAre vs ns) (hl : ns.length ≤ sizeLine) (hr : Room k callerA)
    (F : ∀ base : Heap, K.In base → base.Ns mainGlobals mg → (∀ p ∈ cs, TabB base mg p.1 p.2) → FnG P w K mg base CX k fa fd [x] sp) (hbind : ∀ (s : Shared) (u : Value), BindsTo s fd ⟨[u], []⟩ [(x, u)])
    (hsp : ∀ H : Hp, StartT K cs a ns H → sp [.ref a] H (fun v _ => v = .bl true) fun _ _ _ => False) (hCX : ∀ H e s', CX [] H S (fun _ _ _ => False) e s' → False) :
    codeAny (model P w) callerA (.call (.ref fa) ⟨[.ref a], []⟩) (Yes S) S := by
  have values := vals_ints hi
  have many := hi.length
  have out : a ∉ cs.map Prod.snd := fun z => by
    have e := tab_at hT z
    rw [ha] at e
    exact nomatch congrArg Obj.data (Option.some.inj e)
  by_cases hk : K.lookup a = none
  · let H : Hp := fun b => if b = a then some (.frz { cls := .type "list", data := .seq vs.toArray } (.lst (ns.map V.int))) else if b ∈ cs.map Prod.snd then some (.tbl #[]) else none
    have Ha : H a = some (.frz { cls := .type "list", data := .seq vs.toArray } (.lst (ns.map V.int))) := if_pos rfl
    have Ht : ∀ {b}, b ∈ cs.map Prod.snd → H b = some (.tbl #[]) := fun {b} z => (if_neg (show ¬ b = a from fun e => out (e ▸ z))).trans (if_pos z)
    have Hb : ∀ {b}, b ≠ a → b ∉ cs.map Prod.snd → H b = none := fun z1 z2 => (if_neg z1).trans (if_neg z2)
    have only : ∀ b, H b = none ∨ b ∈ cs.map Prod.snd ∨ ∃ o xs, H b = some (.frz o (.lst xs)) := by
      intro b
      by_cases e : b = a
      · subst e; exact .inr (.inr ⟨_, _, Ha⟩)
      · by_cases z : b ∈ cs.map Prod.snd
        · exact .inr (.inl z)
        · exact .inl (Hb e z)
    have tab : ∀ p ∈ cs, H p.2 = some (.tbl #[]) := fun p hp => Ht (List.mem_map.mpr ⟨p, hp, rfl⟩)
    refine lawTG_at KX hns hb hbb hlim hg hT nT C hbm ha hr F hbind (hsp H ⟨tab, only, out, .inl (.inr ⟨_, Ha⟩)⟩) hCX ⟨only, tab, ?_, ?_, fun _ => hk⟩
    · intro b u z
      by_cases e : b = a
      · subst e
        rw [Ha] at z
        cases z
        exact ⟨ha, by rw [List.length_map]; exact hl, vs, _, values, ha⟩
      · by_cases q : b ∈ cs.map Prod.snd
        · rw [Ht q] at z
          cases z
          exact tab_at hT q
        · rw [Hb e q] at z
          exact nomatch z
    · intro b z
      refine Classical.byContradiction fun e => z (Hb (fun q => e (.inl q)) fun q => e (.inr q))
  · obtain ⟨ob, hk⟩ := Option.ne_none_iff_exists'.mp hk
    have e := KX a ob hk
    rw [ha] at e
    cases e
    let H : Hp := fun b => if b ∈ cs.map Prod.snd then some (.tbl #[]) else none
    have Ht : ∀ {b}, b ∈ cs.map Prod.snd → H b = some (.tbl #[]) := fun z => if_pos z
    have Hb : ∀ {b}, b ∉ cs.map Prod.snd → H b = none := fun z => if_neg z
    have only : ∀ b, H b = none ∨ b ∈ cs.map Prod.snd ∨ ∃ o xs, H b = some (.frz o (.lst xs)) := fun b => by
      by_cases z : b ∈ cs.map Prod.snd
      · exact .inr (.inl z)
      · exact .inl (Hb z)
    have tab : ∀ p ∈ cs, H p.2 = some (.tbl #[]) := fun p hp => Ht (List.mem_map.mpr ⟨p, hp, rfl⟩)
    refine lawTG_at (H := H) KX hns hb hbb hlim hg hT nT C hbm ha hr F hbind (hsp H ⟨tab, only, out, .inr ⟨_, vs.toArray, _, hk, rfl, rfl, rfl, by rw [List.size_toArray, many]; exact hl, by simpa using values⟩⟩) hCX ⟨only, tab, ?_, ?_, fun z => absurd (Hb out) z⟩
    · intro b u z
      by_cases q : b ∈ cs.map Prod.snd
      · rw [Ht q] at z
        cases z
        exact tab_at hT q
      · rw [Hb q] at z
        exact nomatch z
    · intro b z
      exact .inr (Classical.byContradiction fun q => z (Hb q))
end
/-- what is known of such a law's promise at the head's heap -/
def LawAtG (l : PySem.W.OpenLaw) (w : World) (K : PySem.W.Frag) (CX : CXT) (k n : Nat) (x : Str) (mg : Str → Option Value) (fa : Addr) (h : Heap) : Prop :=
  ∃ (fd : FuncData) (cs : List (Addr × Addr)) (sp : Sp), (∀ p ∈ cs, h.get? p.2 = some emptyO) ∧ (∀ p ∈ cs, K.lookup p.2 = none) ∧ (∀ p ∈ cs, PySem.W.CodeHd h p.1 p.2) ∧ (∀ (s : Shared) (u : Value), BindsTo s fd ⟨[u], []⟩ [(x, u)]) ∧
    (∀ (H : Hp) (a : Addr) (ns : List Int), ns.length ≤ n → StartT K cs a ns H → sp [.ref a] H (fun v _ => v = .bl true) fun _ _ _ => False) ∧
    ∀ base : Heap, K.In base → base.Ns mainGlobals mg → (∀ p ∈ cs, TabB base mg p.1 p.2) → FnG l.prog w K mg base CX k fa fd [x] sp
theorem walk_ofTG {l : PySem.W.OpenLaw} {n k : Nat} {q : Program} {loose : List Str} {XP : (Str → Option Value) → Heap → Prop} {YP : World → Heap → Prop} {d : DefRec} {CX : World → CXT} {x : Str}
    (hn : l.most = some n) (hn2 : n ≤ sizeLine) (hdf : d.params.defaults = []) (hr : Room k callerA)
    (F : ∀ (w : World) (mg : Str → Option Value) (fa : Addr) (h : Heap), YP w h → h.Ns mainGlobals mg → mg d.name = some (.ref fa) → ∃ K : PySem.W.Frag, K.In h ∧ LawAtG l w K (CX w) k n x mg fa h)
    (hCX : ∀ (w : World) (H : Hp) (s : Shared) (e : Value) (s' : Shared), CX w [] H s (fun _ _ _ => False) e s' → False) : PySem.W.WalkO q loose XP YP l.row.toRowW d [] (fun f vs => PySem.call f vs) := by
  apply Att.attach_callB hn hdf
  intro w s₀ s₁ mg mb fa o pm cd doc a vs ns G Y ho hd hcd hmg hobj hints hlen hbits hg
  obtain ⟨K, KX, fd, cs, sp, hT, nT, C, bnd, want, Fn⟩ := F w mg fa _ Y G.T.g hmg
  exact lawTG_call KX G.T.g G.T.b G.T.builtins G.T.nolimit hg hT nT C G.T.bmain hobj hints (Nat.le_trans hlen hn2) hr Fn bnd (fun H z => want H a ns hlen z) fun H e s' => hCX w H s₁ e s'
end L2
namespace Tr
open PySem PySem.Spec PyProof.Rows L2
/-! ### facts of the head -/
def exB (n : Str) (K : PySem.W.Frag) : Bool := PySem.W.excIn K (He.ga K n) He.veBase "ValueError.__new__" && PySem.W.keepIn K (.ref (He.ga K n)) && (match PySem.W.subIn K (.ref (He.ga K n)) (.type "BaseException") with
  | some true => true
  | _ => false) && (match PySem.W.typeIn K (.ref (He.ga K n)) with
  | some (.type t) => decide (t = "type")
  | _ => false)
theorem exB_ok {n : Str} {K : PySem.W.Frag} (h : exB n K = true) : ExD K (He.ga K n) := by
  unfold exB at h
  rw [Bool.and_eq_true, Bool.and_eq_true, Bool.and_eq_true] at h
  obtain ⟨⟨⟨h1, h2⟩, h3⟩, h4⟩ := h
  refine ⟨h1, h2, ?_, ?_⟩
  · split at h3
    · assumption
    · cases h3
  · split at h4
    · rename_i e
      rw [e, of_decide_eq_true h4]
    · cases h4
/-- which classes of exceptions are told apart -/
def EmOk (cN : Str → Addr) (em : Value → Value → Option Bool) (N : List Str) : Prop := ∀ x ∈ N, ∀ y ∈ N, em (.ref (cN x)) (.ref (cN y)) = some (decide (x = y))
def emB (N : List Str) (K : PySem.W.Frag) : Bool := N.all fun x => N.all fun y => (match PySem.W.exmOne K (.ref (He.ga K x)) (.ref (He.ga K y)) with
  | some v => v == decide (x = y)
  | none => false)
theorem emB_ok {N : List Str} {K : PySem.W.Frag} (h : emB N K = true) : EmOk (He.ga K) (PySem.W.exmOne K) N := fun x hx y hy => by
  have z := List.all_eq_true.mp (List.all_eq_true.mp h x hx) y hy
  split at z
  · rename_i v e
    rw [e, eq_of_beq z]
  · cases z
theorem fst_uniq : ∀ {l : List (Addr × Str)}, (l.map Prod.fst).Nodup → ∀ p ∈ l, ∀ r ∈ l, p.1 = r.1 → p.2 = r.2
  | [], _, p, hp, _, _, _ => nomatch hp
  | q :: l, h, p, hp, r, hr, e => by
    rw [List.map_cons, List.nodup_cons] at h
    rcases List.mem_cons.mp hp with z1 | z1
    · rcases List.mem_cons.mp hr with z2 | z2
      · rw [z1, z2]
      · exact absurd (show q.1 ∈ l.map Prod.fst from List.mem_map.mpr ⟨r, z2, by rw [← e, z1]⟩) h.1
    · rcases List.mem_cons.mp hr with z2 | z2
      · exact absurd (show q.1 ∈ l.map Prod.fst from List.mem_map.mpr ⟨p, z1, by rw [e, z2]⟩) h.1
      · exact fst_uniq h.2 p z1 r z2 e
/-- the start of a law's body -/
theorem start_T [Tabl] {K : PySem.W.Frag} {cs : List (Addr × Addr)} {a : Addr} {ns : List Int} {H : Hp} {wf : WF} (hT : ∀ p ∈ Tabl.T, p.1 ∈ cs.map Prod.snd) (hC : ∀ p ∈ cs, ∃ q, (p.2, q) ∈ Tabl.T) (S : StartT K cs a ns H) (hw : wf [.val (.scr (ns.map T.int))] fun x => x = .val (.bl true)) :
    spT K wf [.ref a] H (fun v _ => v = .bl true) fun _ _ _ => False := by
  obtain ⟨h1, h2, h3, hS⟩ := S
  have tb : ∀ {d : Addr} {q : Str}, d ∈ cs.map Prod.snd → LamX.TabS H d q := fun {d q} hd => by
    obtain ⟨p, hp, rfl⟩ := List.mem_map.mp hd
    refine ⟨#[], h1 p hp, ?_, fun pos cv hc => ?_⟩
    · exact (show TriplesOk [] from by simp [TriplesOk])
    · exact (nomatch (show (none : Option Value) = some cv from hc))
  have ra : ∀ A, RepAll K A H (ns.map V.int) (ns.map T.int) := fun A => by
    clear hw hS
    induction ns with
    | nil => exact .nil
    | cons n r ih => exact .cons (.int n) ih
  have rep : Rep K (cs.map Prod.snd) H (.ref a) (.scr (ns.map T.int)) := by
    rcases hS with (h | ⟨o, h⟩) | h
    · rcases h2 a with z | z | ⟨o, xs, z⟩
      · rw [h] at z; cases z
      · exact absurd z h3
      · rw [h] at z; cases z
    · exact .scr h3 h (ra _)
    · exact .scrK h (ra _)
  refine ⟨cs.map Prod.snd, cs.map Prod.snd, [.val (.scr (ns.map T.int))], fun x => x = .val (.bl true), fun d hd => ?_, fun d hd => hd, ⟨fun d hd => ?_, fun p hp => ⟨hT p hp, tb (hT p hp)⟩⟩, .cons rep .nil, hw, fun v H' x _ hr hx => ?_⟩
  · obtain ⟨p, hp, rfl⟩ := List.mem_map.mp hd
    obtain ⟨q, hq⟩ := hC p hp
    exact .inr ⟨q, hq, tb hd⟩
  · obtain ⟨p, hp, rfl⟩ := List.mem_map.mp hd
    rw [h1 p hp]
    exact fun z => nomatch z
  · subst hx
    cases hr
    rfl
end Tr


set_option Elab.async false
set_option linter.all false
set_option maxRecDepth 100000
set_option maxHeartbeats 0
namespace Tr
open PySem PySem.Spec PyProof.Rows L2
variable [Tabl]
/-! ### 20. a reading is run -/
theorem wideL0 {i j : Int} (h : i.natAbs < 2 ^ 64) : wide i j = true := by
  unfold wide
  rw [Bool.or_eq_true, Bool.or_eq_true]
  exact .inl (.inl (decide_eq_true h))
theorem wideR0 {i j : Int} (h : j.natAbs < 2 ^ 64) : wide i j = true := by
  unfold wide
  rw [Bool.or_eq_true, Bool.or_eq_true]
  exact .inl (.inr (decide_eq_true h))
section
variable {sl : List Sl} {P : Sl → Prop} {Q : Bool → Prop} {f bk ct : List Sl → Prop} {rt : Sl → Prop} {a b c : WE} {s t u z : T} {i j l : Nat} {m n : Int} {x y : Sl} {ts us : List T} {A B : Prop}
def ifG (A B : Prop) (v : Bool) : Prop := if v = true then A else B
def stG (f : List Sl → Prop) (i : Nat) (x : Sl) (sl : List Sl) : Prop := f (sl.set i x)
def bG (Q : Bool → Prop) (x : Sl) : Prop := ∃ b, x = .val (.bl b) ∧ Q b
def notG (Q : Bool → Prop) (b : Bool) : Prop := Q (!b)
def truG (Q : Bool → Prop) (x : Sl) : Prop := ∃ t b, x.tree = some t ∧ truT t = some b ∧ Q b
def boG (A B : Prop) (x : Sl) : Prop := ∃ c, x = .val (.bl c) ∧ if c = true then A else B
def asgG (i : Nat) (f : List Sl → Prop) (sl : List Sl) (x : Sl) : Prop := storable x = true ∧ f (sl.set i x)
def ownG (i : Nat) (f : List Sl → Prop) (sl : List Sl) (ts : List T) : Prop := ∀ l, f (sl.set i (.own l ts))
def asgTG (is : List Nat) (f : List Sl → Prop) (sl : List Sl) (x : Sl) : Prop := ∃ t sl', x = .val t ∧ (Tg.names is).st t sl = some sl' ∧ f sl'
def parG (i j : Nat) (f : List Sl → Prop) (sl : List Sl) (xs : List Sl) : Prop := ∃ x y, xs = [x, y] ∧ storable x = true ∧ storable y = true ∧ f ((sl.set i x).set j y)
def par3G (i j l : Nat) (f : List Sl → Prop) (sl : List Sl) (xs : List Sl) : Prop := ∃ x y z, xs = [x, y, z] ∧ storable x = true ∧ storable y = true ∧ storable z = true ∧ f (((sl.set i x).set j y).set l z)
def augG (g : Int → Int → Int) (a : Int) (i : Nat) (f : List Sl → Prop) (sl : List Sl) (x : Sl) : Prop := ∃ b, x = .val (.int b) ∧ f (sl.set i (.val (.int (g a b))))
def appG (l : Addr) (ts : List T) (i : Nat) (f : List Sl → Prop) (sl : List Sl) (x : Sl) : Prop := ∃ t, x = .val t ∧ f (sl.set i (.own l (ts ++ [t])))
def extG (l : Addr) (ts : List T) (i : Nat) (f : List Sl → Prop) (sl : List Sl) (x : Sl) : Prop := ∃ us, x = .val (.lst us) ∧ ts.length + us.length ≤ 1000000 ∧ f (sl.set i (.own l (ts ++ us)))
def callG (wf : WF) (dts : List T) (P : Sl → Prop) (xs : List Sl) : Prop := xs.all isArg = true ∧ wf (xs ++ dts.map Sl.val) P
def metG (wf : WF) (dts : List T) (P : Sl → Prop) (x : Sl) (xs : List Sl) : Prop := xs.all isArg = true ∧ wf (x :: (xs ++ dts.map Sl.val)) P
def meG (C : Addr) (m : Str) (wf : WF) (dts : List T) (a : WA) (sl : List Sl) (P : Sl → Prop) (x : Sl) : Prop := ∃ ns ts, x = .val (.ins C ns ts) ∧ m ∉ ns ∧ a sl fun xs => xs.all isArg = true ∧ wf (x :: (xs ++ dts.map Sl.val)) P
def makG (C : Addr) (wf : WM) (dts : List T) (P : Sl → Prop) (xs : List Sl) : Prop := xs.all isArg = true ∧ wf (xs ++ dts.map Sl.val) fun ns ts => P (.val (.ins C ns ts))
def fldG (C : Addr) (f : Str) (P : Sl → Prop) (x : Sl) : Prop := ∃ ns ts t, x = .val (.ins C ns ts) ∧ (ns.zip ts).lookup f = some t ∧ P (.val t)
def isIG (C : Addr) (P : Sl → Prop) (x : Sl) : Prop := ∃ t b, x.tree = some t ∧ isI C t = some b ∧ P (.val (.bl b))
def blG (P : Sl → Prop) (z : Sl) : Prop := ∃ r, z = .val (.bl r) ∧ P z
def blnG (P : Sl → Prop) (z : Sl) : Prop := ∃ r, z = .val (.bl r) ∧ P (.val (.bl (!r)))
def eqG (C : Addr) (wf : WF) (P : Sl → Prop) (x y : Sl) : Prop := ∃ ns ts u, x = .val (.ins C ns ts) ∧ y = .val u ∧ tyOk C u ∧ wf [x, y] fun z => ∃ r, z = .val (.bl r) ∧ P z
def neG (C : Addr) (wf : WF) (P : Sl → Prop) (x y : Sl) : Prop := ∃ ns ts u, x = .val (.ins C ns ts) ∧ y = .val u ∧ tyOk C u ∧ wf [x, y] fun z => ∃ r, z = .val (.bl r) ∧ P (.val (.bl (!r)))
def opG (g : T → T → Option T) (P : Sl → Prop) (x y : Sl) : Prop := ∃ s t z, x.tree = some s ∧ y.tree = some t ∧ g s t = some z ∧ P (.val z)
def op2 (g : T → T → Option T) (P : Sl → Prop) (s t : T) : Prop := ∃ z, g s t = some z ∧ P (.val z)
def unG (g : T → Option T) (P : Sl → Prop) (x : Sl) : Prop := ∃ s z, x.tree = some s ∧ g s = some z ∧ P (.val z)
def ch2 (h : T → T → Option T) (P : Sl → Prop) (t : T) (z : Sl) : Prop := ∃ u r, z.tree = some u ∧ h t u = some r ∧ P (.val r)
def chG (g h : T → T → Option T) (c : WE) (sl : List Sl) (P : Sl → Prop) (x y : Sl) : Prop := ∃ s t k, x.tree = some s ∧ y.tree = some t ∧ g s t = some (.bl k) ∧ (if k = true then c sl fun z => ∃ u r, z.tree = some u ∧ h t u = some r ∧ P (.val r) else P (.val (.bl false)))
def isNG (neg : Bool) (P : Sl → Prop) (x : Sl) : Prop := ∃ b, isN x = some b ∧ P (.val (.bl (if neg then !b else b)))
def tupG (P : Sl → Prop) (xs : List Sl) : Prop := ∃ ts, trees xs = some ts ∧ ts.length ≤ 1000000 ∧ P (.val (.tup ts))
def lstG (P : List T → Prop) (xs : List Sl) : Prop := ∃ ts, trees xs = some ts ∧ ts.length ≤ 1000000 ∧ P ts
def lofG (P : List T → Prop) (xs : List Sl) : Prop := ∃ x t ts, xs = [x] ∧ x.tree = some t ∧ t.seq = some ts ∧ P ts
def slG (P : Sl → Prop) (x : Sl) (lo hi : Option Int) : Prop := ∃ s z, x.tree = some s ∧ slT s lo hi = some z ∧ P (.val z)
def osG (P : Option Int → Prop) (x : Sl) : Prop := ∃ i, x = .val (.int i) ∧ P (some i)
def cbG (g : List T → Option T) (P : Sl → Prop) (xs : List Sl) : Prop := ∃ ts z, treesR xs = some ts ∧ g ts = some z ∧ P (.val z)
def lcG (g : Tg) (wt : WT) (we : WE) (sl : List Sl) (P : List T → Prop) (ts : List T) : Prop := ts.length ≤ 100000 ∧ wColl g wt we sl P ts []
def seqG (P : List T → Prop) (x : Sl) : Prop := ∃ t ts, x = .val t ∧ t.seq = some ts ∧ P ts
def rg1G (P : List T → Prop) (xs : List Sl) : Prop := ∃ n : Int, xs = [.val (.int n)] ∧ -(2 ^ 62) ≤ n ∧ n < 2 ^ 62 ∧ P (upTo 0 n.toNat)
def rg2G (P : List T → Prop) (xs : List Sl) : Prop := ∃ m n : Int, xs = [.val (.int m), .val (.int n)] ∧ (-(2 ^ 62) ≤ m ∧ m < 2 ^ 62 ∧ -(2 ^ 62) ≤ n ∧ n < 2 ^ 62) ∧ P (upTo m (n - m).toNat)
def enG (P : List T → Prop) (xs : List Sl) : Prop := ∃ t ts, xs = [.val t] ∧ (t = .lst ts ∨ t = .tup ts) ∧ P (enT 0 ts)
def sw2 (P : Sl → Prop) (p : Str) (y : Sl) : Prop := ∃ u, y = .val (.str u) ∧ P (.val (.bl (Txt.startswith p u)))
def sw1 (b : WE) (sl : List Sl) (P : Sl → Prop) (x : Sl) : Prop := ∃ z, x = .val (.str z) ∧ b sl fun y => ∃ u, y = .val (.str u) ∧ P (.val (.bl (Txt.startswith z u)))
def wstG (P : List T → Prop) (x : Sl) : Prop := ∃ z, x = .val (.str z) ∧ P (sgnT z)
theorem x_seq {p q : WS} (h : p ⟨fun s => q ⟨f, rt, bk, ct⟩ s, rt, bk, ct⟩ sl) : wSeq p q ⟨f, rt, bk, ct⟩ sl := h
theorem x_next (h : f sl) : wNext ⟨f, rt, bk, ct⟩ sl := h
theorem x_asg (h : a sl fun x => asgG i f sl x) : wAsg a i ⟨f, rt, bk, ct⟩ sl := h
theorem x_asgv (h : stG f i (.val t) sl) : asgG i f sl (.val t) := ⟨rfl, h⟩
theorem x_asgd (h : stG f i .dice sl) : asgG i f sl .dice := ⟨rfl, h⟩
theorem x_st0 {y0 : Sl} (h : f (x :: sl)) : stG f 0 x (y0 :: sl) := h
theorem x_st1 {x0 : Sl} {y0 : Sl} (h : f (x0 :: x :: sl)) : stG f 1 x (x0 :: y0 :: sl) := h
theorem x_st2 {x0 x1 : Sl} {y0 : Sl} (h : f (x0 :: x1 :: x :: sl)) : stG f 2 x (x0 :: x1 :: y0 :: sl) := h
theorem x_st3 {x0 x1 x2 : Sl} {y0 : Sl} (h : f (x0 :: x1 :: x2 :: x :: sl)) : stG f 3 x (x0 :: x1 :: x2 :: y0 :: sl) := h
theorem x_st4 {x0 x1 x2 x3 : Sl} {y0 : Sl} (h : f (x0 :: x1 :: x2 :: x3 :: x :: sl)) : stG f 4 x (x0 :: x1 :: x2 :: x3 :: y0 :: sl) := h
theorem x_st5 {x0 x1 x2 x3 x4 : Sl} {y0 : Sl} (h : f (x0 :: x1 :: x2 :: x3 :: x4 :: x :: sl)) : stG f 5 x (x0 :: x1 :: x2 :: x3 :: x4 :: y0 :: sl) := h
theorem x_st6 {x0 x1 x2 x3 x4 x5 : Sl} {y0 : Sl} (h : f (x0 :: x1 :: x2 :: x3 :: x4 :: x5 :: x :: sl)) : stG f 6 x (x0 :: x1 :: x2 :: x3 :: x4 :: x5 :: y0 :: sl) := h
theorem x_st7 {x0 x1 x2 x3 x4 x5 x6 : Sl} {y0 : Sl} (h : f (x0 :: x1 :: x2 :: x3 :: x4 :: x5 :: x6 :: x :: sl)) : stG f 7 x (x0 :: x1 :: x2 :: x3 :: x4 :: x5 :: x6 :: y0 :: sl) := h
theorem x_st8 {x0 x1 x2 x3 x4 x5 x6 x7 : Sl} {y0 : Sl} (h : f (x0 :: x1 :: x2 :: x3 :: x4 :: x5 :: x6 :: x7 :: x :: sl)) : stG f 8 x (x0 :: x1 :: x2 :: x3 :: x4 :: x5 :: x6 :: x7 :: y0 :: sl) := h
theorem x_st9 {x0 x1 x2 x3 x4 x5 x6 x7 x8 : Sl} {y0 : Sl} (h : f (x0 :: x1 :: x2 :: x3 :: x4 :: x5 :: x6 :: x7 :: x8 :: x :: sl)) : stG f 9 x (x0 :: x1 :: x2 :: x3 :: x4 :: x5 :: x6 :: x7 :: x8 :: y0 :: sl) := h
theorem x_st10 {x0 x1 x2 x3 x4 x5 x6 x7 x8 x9 : Sl} {y0 : Sl} (h : f (x0 :: x1 :: x2 :: x3 :: x4 :: x5 :: x6 :: x7 :: x8 :: x9 :: x :: sl)) : stG f 10 x (x0 :: x1 :: x2 :: x3 :: x4 :: x5 :: x6 :: x7 :: x8 :: x9 :: y0 :: sl) := h
theorem x_st11 {x0 x1 x2 x3 x4 x5 x6 x7 x8 x9 x10 : Sl} {y0 : Sl} (h : f (x0 :: x1 :: x2 :: x3 :: x4 :: x5 :: x6 :: x7 :: x8 :: x9 :: x10 :: x :: sl)) : stG f 11 x (x0 :: x1 :: x2 :: x3 :: x4 :: x5 :: x6 :: x7 :: x8 :: x9 :: x10 :: y0 :: sl) := h
theorem x_st12 {x0 x1 x2 x3 x4 x5 x6 x7 x8 x9 x10 x11 : Sl} {y0 : Sl} (h : f (x0 :: x1 :: x2 :: x3 :: x4 :: x5 :: x6 :: x7 :: x8 :: x9 :: x10 :: x11 :: x :: sl)) : stG f 12 x (x0 :: x1 :: x2 :: x3 :: x4 :: x5 :: x6 :: x7 :: x8 :: x9 :: x10 :: x11 :: y0 :: sl) := h
theorem x_st13 {x0 x1 x2 x3 x4 x5 x6 x7 x8 x9 x10 x11 x12 : Sl} {y0 : Sl} (h : f (x0 :: x1 :: x2 :: x3 :: x4 :: x5 :: x6 :: x7 :: x8 :: x9 :: x10 :: x11 :: x12 :: x :: sl)) : stG f 13 x (x0 :: x1 :: x2 :: x3 :: x4 :: x5 :: x6 :: x7 :: x8 :: x9 :: x10 :: x11 :: x12 :: y0 :: sl) := h
theorem x_st14 {x0 x1 x2 x3 x4 x5 x6 x7 x8 x9 x10 x11 x12 x13 : Sl} {y0 : Sl} (h : f (x0 :: x1 :: x2 :: x3 :: x4 :: x5 :: x6 :: x7 :: x8 :: x9 :: x10 :: x11 :: x12 :: x13 :: x :: sl)) : stG f 14 x (x0 :: x1 :: x2 :: x3 :: x4 :: x5 :: x6 :: x7 :: x8 :: x9 :: x10 :: x11 :: x12 :: x13 :: y0 :: sl) := h
theorem x_st15 {x0 x1 x2 x3 x4 x5 x6 x7 x8 x9 x10 x11 x12 x13 x14 : Sl} {y0 : Sl} (h : f (x0 :: x1 :: x2 :: x3 :: x4 :: x5 :: x6 :: x7 :: x8 :: x9 :: x10 :: x11 :: x12 :: x13 :: x14 :: x :: sl)) : stG f 15 x (x0 :: x1 :: x2 :: x3 :: x4 :: x5 :: x6 :: x7 :: x8 :: x9 :: x10 :: x11 :: x12 :: x13 :: x14 :: y0 :: sl) := h
theorem x_st16 {x0 x1 x2 x3 x4 x5 x6 x7 x8 x9 x10 x11 x12 x13 x14 x15 : Sl} {y0 : Sl} (h : f (x0 :: x1 :: x2 :: x3 :: x4 :: x5 :: x6 :: x7 :: x8 :: x9 :: x10 :: x11 :: x12 :: x13 :: x14 :: x15 :: x :: sl)) : stG f 16 x (x0 :: x1 :: x2 :: x3 :: x4 :: x5 :: x6 :: x7 :: x8 :: x9 :: x10 :: x11 :: x12 :: x13 :: x14 :: x15 :: y0 :: sl) := h
theorem x_st17 {x0 x1 x2 x3 x4 x5 x6 x7 x8 x9 x10 x11 x12 x13 x14 x15 x16 : Sl} {y0 : Sl} (h : f (x0 :: x1 :: x2 :: x3 :: x4 :: x5 :: x6 :: x7 :: x8 :: x9 :: x10 :: x11 :: x12 :: x13 :: x14 :: x15 :: x16 :: x :: sl)) : stG f 17 x (x0 :: x1 :: x2 :: x3 :: x4 :: x5 :: x6 :: x7 :: x8 :: x9 :: x10 :: x11 :: x12 :: x13 :: x14 :: x15 :: x16 :: y0 :: sl) := h
theorem x_if {v : WT} {p q : WS} (h : v sl fun v => ifG (p ⟨f, rt, bk, ct⟩ sl) (q ⟨f, rt, bk, ct⟩ sl) v) : wIf v p q ⟨f, rt, bk, ct⟩ sl := h
theorem x_ift (h : A) : ifG A B true := h
theorem x_iff (h : B) : ifG A B false := by unfold ifG; rw [if_neg Bool.false_ne_true]; exact h
theorem x_ifE1 {α : Type} {q : α} {qs : List α} (h : B) : ifG A B (q :: qs).isEmpty := x_iff h
theorem x_ifE0 {α : Type} (h : A) : ifG A B ([] : List α).isEmpty := h
theorem x_ifn {v : Bool} (h : ifG B A v) : ifG A B (!v) := by cases v <;> exact h
theorem x_ifp {p : Prop} [Decidable p] (hp : p) (h : A) : ifG A B (decide p) := by unfold ifG; rw [decide_eq_true hp, if_pos rfl]; exact h
theorem x_ifq {p : Prop} [Decidable p] (hp : ¬p) (h : B) : ifG A B (decide p) := by unfold ifG; rw [decide_eq_false hp, if_neg Bool.false_ne_true]; exact h
theorem x_ifc {p : Prop} [Decidable p] (h1 : p → A) (h2 : ¬p → B) : ifG A B (decide p) := by by_cases hp : p; exact x_ifp hp (h1 hp); exact x_ifq hp (h2 hp)
theorem x_ifb {v : Bool} (h1 : v = true → A) (h2 : v = false → B) : ifG A B v := by cases v; exact x_iff (h2 rfl); exact h1 rfl
theorem x_ret (h : a sl rt) : wRet a ⟨f, rt, bk, ct⟩ sl := h
theorem x_retK (h : P (.val t)) : retK P (.val t) := h
theorem x_retO {l : Addr} (h : P (.val (.lst ts))) : retK P (.own l ts) := h
theorem x_retN (h : rt (.val .non)) : wRetN ⟨f, rt, bk, ct⟩ sl := h
theorem x_drop (h : a sl fun _ => f sl) : wDrop a ⟨f, rt, bk, ct⟩ sl := h
theorem x_brk (h : bk sl) : wBrk ⟨f, rt, bk, ct⟩ sl := h
theorem x_cnt (h : ct sl) : wCnt ⟨f, rt, bk, ct⟩ sl := h
theorem x_own {e : WL} (h : e sl fun ts => ownG i f sl ts) : wOwn e i ⟨f, rt, bk, ct⟩ sl := h
theorem x_ownl (h : ∀ l, stG f i (.own l ts) sl) : ownG i f sl ts := h
theorem x_asgT {is : List Nat} (h : a sl fun x => asgTG is f sl x) : wAsgT a is ⟨f, rt, bk, ct⟩ sl := h
theorem x_asgT2 (h : stG (fun r => stG f j (.val t) r) i (.val s) sl) : asgTG [i, j] f sl (.val (.tup [s, t])) := ⟨_, _, rfl, rfl, h⟩
theorem x_asgT3 (h : stG (fun r => stG (fun r => stG f l (.val u) r) j (.val t) r) i (.val s) sl) : asgTG [i, j, l] f sl (.val (.tup [s, t, u])) := ⟨_, _, rfl, rfl, h⟩
theorem x_asgT4 {q : Nat} (h : stG (fun r => stG (fun r => stG (fun r => stG f q (.val z) r) l (.val u) r) j (.val t) r) i (.val s) sl) : asgTG [i, j, l, q] f sl (.val (.tup [s, t, u, z])) := ⟨_, _, rfl, rfl, h⟩
theorem x_par {e : WA} (h : e sl fun xs => parG i j f sl xs) : wPar i j e ⟨f, rt, bk, ct⟩ sl := h
theorem x_parv (h : stG (fun r => stG f j (.val t) r) i (.val s) sl) : parG i j f sl [.val s, .val t] := ⟨_, _, rfl, rfl, rfl, h⟩
theorem x_par3 {e : WA} (h : e sl fun xs => par3G i j l f sl xs) : wPar3 i j l e ⟨f, rt, bk, ct⟩ sl := h
theorem x_par3v (h : stG (fun r => stG (fun r => stG f l (.val u) r) j (.val t) r) i (.val s) sl) : par3G i j l f sl [.val s, .val t, .val u] := ⟨_, _, _, rfl, rfl, rfl, rfl, h⟩
theorem x_aug {g : Int → Int → Int} (e : nth sl i = .val (.int m)) (h : a sl fun x => augG g m i f sl x) : wAug g i a ⟨f, rt, bk, ct⟩ sl := ⟨m, e, h⟩
theorem x_augv {g : Int → Int → Int} (h : stG f i (.val (.int (g m n))) sl) : augG g m i f sl (.val (.int n)) := ⟨n, rfl, h⟩
theorem x_app {l : Addr} (e : nth sl i = .own l ts) (hl : ts.length < 1000000) (h : a sl fun x => appG l ts i f sl x) : wApp i a ⟨f, rt, bk, ct⟩ sl := ⟨l, ts, e, hl, h⟩
theorem x_appv {l : Addr} (h : stG f i (.own l (ts ++ [t])) sl) : appG l ts i f sl (.val t) := ⟨t, rfl, h⟩
theorem x_ext {l : Addr} (e : nth sl i = .own l ts) (h : a sl fun x => extG l ts i f sl x) : wExt i a ⟨f, rt, bk, ct⟩ sl := ⟨l, ts, e, h⟩
theorem x_extv {l : Addr} (hl : ts.length + us.length ≤ 1000000) (h : stG f i (.own l (ts ++ us)) sl) : extG l ts i f sl (.val (.lst us)) := ⟨us, rfl, hl, h⟩
theorem x_frz {l : Addr} {p : WS} (e : nth sl i = .own l ts) (h : stG (fun r => p ⟨f, rt, bk, ct⟩ r) i (.val (.lst ts)) sl) : wFrz i p ⟨f, rt, bk, ct⟩ sl := ⟨l, ts, e, h⟩
theorem x_for {p : WS} {e : WI} {g : Tg} (h : e sl fun ts => wForL g p ⟨f, rt, bk, ct⟩ ts sl) : wFor e g p ⟨f, rt, bk, ct⟩ sl := h
theorem x_B (h : a sl fun x => bG Q x) : wB a sl Q := h
theorem x_Bv {v : Bool} (h : Q v) : bG Q (.val (.bl v)) := ⟨v, rfl, h⟩
theorem x_not {v : WT} (h : v sl fun b => notG Q b) : wNot v sl Q := h
theorem x_nott (h : Q false) : notG Q true := h
theorem x_notf (h : Q true) : notG Q false := h
theorem x_notv {v : Bool} (h : Q (!v)) : notG Q v := h
theorem x_and {v r : WT} (h : v sl fun b => ifG (r sl Q) (Q false) b) : wAnd v r sl Q := h
theorem x_or {v r : WT} (h : v sl fun b => ifG (Q true) (r sl Q) b) : wOr v r sl Q := h
theorem x_tru (h : a sl fun x => truG Q x) : wTru a sl Q := h
theorem x_trub {v : Bool} (h : Q v) : truG Q (.val (.bl v)) := ⟨_, v, rfl, rfl, h⟩
theorem x_trui (h : Q (m != 0)) : truG Q (.val (.int m)) := ⟨_, _, rfl, rfl, h⟩
theorem x_trun (h : Q false) : truG Q (.val .non) := ⟨_, _, rfl, rfl, h⟩
theorem x_trutup0 (h : Q false) : truG Q (.val (.tup [])) := ⟨_, _, rfl, rfl, h⟩
theorem x_trutup1 (h : Q true) : truG Q (.val (.tup (t :: ts))) := ⟨_, _, rfl, rfl, h⟩
theorem x_trutup (h : Q (!ts.isEmpty)) : truG Q (.val (.tup ts)) := ⟨_, _, rfl, rfl, h⟩
theorem x_trulst0 (h : Q false) : truG Q (.val (.lst [])) := ⟨_, _, rfl, rfl, h⟩
theorem x_trulst1 (h : Q true) : truG Q (.val (.lst (t :: ts))) := ⟨_, _, rfl, rfl, h⟩
theorem x_trulst (h : Q (!ts.isEmpty)) : truG Q (.val (.lst ts)) := ⟨_, _, rfl, rfl, h⟩
theorem x_truo {l : Addr} (h : Q (!ts.isEmpty)) : truG Q (.own l ts) := ⟨_, _, rfl, rfl, h⟩
theorem x_ifE {v : WT} (h : v sl fun k => ifG (a sl P) (b sl P) k) : wIfE v a b sl P := h
theorem x_andV (h : a sl fun x => boG (b sl P) (P (.val (.bl false))) x) : wAndV a b sl P := h
theorem x_orV (h : a sl fun x => boG (P (.val (.bl true))) (b sl P) x) : wOrV a b sl P := h
theorem x_bo {v : Bool} (h : ifG A B v) : boG A B (.val (.bl v)) := ⟨v, rfl, h⟩
theorem x_notV (h : a sl fun x => bG (fun c => P (.val (.bl (!c)))) x) : wNotV a sl P := h
theorem x_var (e : nth sl i = .val t) (h : P (.val t)) : wVar i sl P := by
  refine ⟨fun z => ?_, ?_⟩
  · rw [e] at z; cases z
  · rw [e]; exact h
theorem x_vard (e : nth sl i = .dice) (h : P .dice) : wVar i sl P := by
  refine ⟨fun z => ?_, ?_⟩
  · rw [e] at z; cases z
  · rw [e]; exact h
theorem x_varo {l : Addr} (e : nth sl i = .own l ts) (h : P (.own l ts)) : wVar i sl P := by
  refine ⟨fun z => ?_, ?_⟩
  · rw [e] at z; cases z
  · rw [e]; exact h
theorem x_v0 (h : P (.val t)) : wVar 0 (.val t :: sl) P := x_var rfl h
theorem x_d0 (h : P .dice) : wVar 0 (.dice :: sl) P := x_vard rfl h
theorem x_o0 {l : Addr} (h : P (.own l ts)) : wVar 0 (.own l ts :: sl) P := x_varo rfl h
theorem x_v1 {x0 : Sl} (h : P (.val t)) : wVar 1 (x0 :: .val t :: sl) P := x_var rfl h
theorem x_d1 {x0 : Sl} (h : P .dice) : wVar 1 (x0 :: .dice :: sl) P := x_vard rfl h
theorem x_o1 {x0 : Sl} {l : Addr} (h : P (.own l ts)) : wVar 1 (x0 :: .own l ts :: sl) P := x_varo rfl h
theorem x_v2 {x0 x1 : Sl} (h : P (.val t)) : wVar 2 (x0 :: x1 :: .val t :: sl) P := x_var rfl h
theorem x_d2 {x0 x1 : Sl} (h : P .dice) : wVar 2 (x0 :: x1 :: .dice :: sl) P := x_vard rfl h
theorem x_o2 {x0 x1 : Sl} {l : Addr} (h : P (.own l ts)) : wVar 2 (x0 :: x1 :: .own l ts :: sl) P := x_varo rfl h
theorem x_v3 {x0 x1 x2 : Sl} (h : P (.val t)) : wVar 3 (x0 :: x1 :: x2 :: .val t :: sl) P := x_var rfl h
theorem x_d3 {x0 x1 x2 : Sl} (h : P .dice) : wVar 3 (x0 :: x1 :: x2 :: .dice :: sl) P := x_vard rfl h
theorem x_o3 {x0 x1 x2 : Sl} {l : Addr} (h : P (.own l ts)) : wVar 3 (x0 :: x1 :: x2 :: .own l ts :: sl) P := x_varo rfl h
theorem x_v4 {x0 x1 x2 x3 : Sl} (h : P (.val t)) : wVar 4 (x0 :: x1 :: x2 :: x3 :: .val t :: sl) P := x_var rfl h
theorem x_d4 {x0 x1 x2 x3 : Sl} (h : P .dice) : wVar 4 (x0 :: x1 :: x2 :: x3 :: .dice :: sl) P := x_vard rfl h
theorem x_o4 {x0 x1 x2 x3 : Sl} {l : Addr} (h : P (.own l ts)) : wVar 4 (x0 :: x1 :: x2 :: x3 :: .own l ts :: sl) P := x_varo rfl h
theorem x_v5 {x0 x1 x2 x3 x4 : Sl} (h : P (.val t)) : wVar 5 (x0 :: x1 :: x2 :: x3 :: x4 :: .val t :: sl) P := x_var rfl h
theorem x_d5 {x0 x1 x2 x3 x4 : Sl} (h : P .dice) : wVar 5 (x0 :: x1 :: x2 :: x3 :: x4 :: .dice :: sl) P := x_vard rfl h
theorem x_o5 {x0 x1 x2 x3 x4 : Sl} {l : Addr} (h : P (.own l ts)) : wVar 5 (x0 :: x1 :: x2 :: x3 :: x4 :: .own l ts :: sl) P := x_varo rfl h
theorem x_v6 {x0 x1 x2 x3 x4 x5 : Sl} (h : P (.val t)) : wVar 6 (x0 :: x1 :: x2 :: x3 :: x4 :: x5 :: .val t :: sl) P := x_var rfl h
theorem x_d6 {x0 x1 x2 x3 x4 x5 : Sl} (h : P .dice) : wVar 6 (x0 :: x1 :: x2 :: x3 :: x4 :: x5 :: .dice :: sl) P := x_vard rfl h
theorem x_o6 {x0 x1 x2 x3 x4 x5 : Sl} {l : Addr} (h : P (.own l ts)) : wVar 6 (x0 :: x1 :: x2 :: x3 :: x4 :: x5 :: .own l ts :: sl) P := x_varo rfl h
theorem x_v7 {x0 x1 x2 x3 x4 x5 x6 : Sl} (h : P (.val t)) : wVar 7 (x0 :: x1 :: x2 :: x3 :: x4 :: x5 :: x6 :: .val t :: sl) P := x_var rfl h
theorem x_d7 {x0 x1 x2 x3 x4 x5 x6 : Sl} (h : P .dice) : wVar 7 (x0 :: x1 :: x2 :: x3 :: x4 :: x5 :: x6 :: .dice :: sl) P := x_vard rfl h
theorem x_o7 {x0 x1 x2 x3 x4 x5 x6 : Sl} {l : Addr} (h : P (.own l ts)) : wVar 7 (x0 :: x1 :: x2 :: x3 :: x4 :: x5 :: x6 :: .own l ts :: sl) P := x_varo rfl h
theorem x_v8 {x0 x1 x2 x3 x4 x5 x6 x7 : Sl} (h : P (.val t)) : wVar 8 (x0 :: x1 :: x2 :: x3 :: x4 :: x5 :: x6 :: x7 :: .val t :: sl) P := x_var rfl h
theorem x_d8 {x0 x1 x2 x3 x4 x5 x6 x7 : Sl} (h : P .dice) : wVar 8 (x0 :: x1 :: x2 :: x3 :: x4 :: x5 :: x6 :: x7 :: .dice :: sl) P := x_vard rfl h
theorem x_o8 {x0 x1 x2 x3 x4 x5 x6 x7 : Sl} {l : Addr} (h : P (.own l ts)) : wVar 8 (x0 :: x1 :: x2 :: x3 :: x4 :: x5 :: x6 :: x7 :: .own l ts :: sl) P := x_varo rfl h
theorem x_v9 {x0 x1 x2 x3 x4 x5 x6 x7 x8 : Sl} (h : P (.val t)) : wVar 9 (x0 :: x1 :: x2 :: x3 :: x4 :: x5 :: x6 :: x7 :: x8 :: .val t :: sl) P := x_var rfl h
theorem x_d9 {x0 x1 x2 x3 x4 x5 x6 x7 x8 : Sl} (h : P .dice) : wVar 9 (x0 :: x1 :: x2 :: x3 :: x4 :: x5 :: x6 :: x7 :: x8 :: .dice :: sl) P := x_vard rfl h
theorem x_o9 {x0 x1 x2 x3 x4 x5 x6 x7 x8 : Sl} {l : Addr} (h : P (.own l ts)) : wVar 9 (x0 :: x1 :: x2 :: x3 :: x4 :: x5 :: x6 :: x7 :: x8 :: .own l ts :: sl) P := x_varo rfl h
theorem x_v10 {x0 x1 x2 x3 x4 x5 x6 x7 x8 x9 : Sl} (h : P (.val t)) : wVar 10 (x0 :: x1 :: x2 :: x3 :: x4 :: x5 :: x6 :: x7 :: x8 :: x9 :: .val t :: sl) P := x_var rfl h
theorem x_d10 {x0 x1 x2 x3 x4 x5 x6 x7 x8 x9 : Sl} (h : P .dice) : wVar 10 (x0 :: x1 :: x2 :: x3 :: x4 :: x5 :: x6 :: x7 :: x8 :: x9 :: .dice :: sl) P := x_vard rfl h
theorem x_o10 {x0 x1 x2 x3 x4 x5 x6 x7 x8 x9 : Sl} {l : Addr} (h : P (.own l ts)) : wVar 10 (x0 :: x1 :: x2 :: x3 :: x4 :: x5 :: x6 :: x7 :: x8 :: x9 :: .own l ts :: sl) P := x_varo rfl h
theorem x_v11 {x0 x1 x2 x3 x4 x5 x6 x7 x8 x9 x10 : Sl} (h : P (.val t)) : wVar 11 (x0 :: x1 :: x2 :: x3 :: x4 :: x5 :: x6 :: x7 :: x8 :: x9 :: x10 :: .val t :: sl) P := x_var rfl h
theorem x_d11 {x0 x1 x2 x3 x4 x5 x6 x7 x8 x9 x10 : Sl} (h : P .dice) : wVar 11 (x0 :: x1 :: x2 :: x3 :: x4 :: x5 :: x6 :: x7 :: x8 :: x9 :: x10 :: .dice :: sl) P := x_vard rfl h
theorem x_o11 {x0 x1 x2 x3 x4 x5 x6 x7 x8 x9 x10 : Sl} {l : Addr} (h : P (.own l ts)) : wVar 11 (x0 :: x1 :: x2 :: x3 :: x4 :: x5 :: x6 :: x7 :: x8 :: x9 :: x10 :: .own l ts :: sl) P := x_varo rfl h
theorem x_v12 {x0 x1 x2 x3 x4 x5 x6 x7 x8 x9 x10 x11 : Sl} (h : P (.val t)) : wVar 12 (x0 :: x1 :: x2 :: x3 :: x4 :: x5 :: x6 :: x7 :: x8 :: x9 :: x10 :: x11 :: .val t :: sl) P := x_var rfl h
theorem x_d12 {x0 x1 x2 x3 x4 x5 x6 x7 x8 x9 x10 x11 : Sl} (h : P .dice) : wVar 12 (x0 :: x1 :: x2 :: x3 :: x4 :: x5 :: x6 :: x7 :: x8 :: x9 :: x10 :: x11 :: .dice :: sl) P := x_vard rfl h
theorem x_o12 {x0 x1 x2 x3 x4 x5 x6 x7 x8 x9 x10 x11 : Sl} {l : Addr} (h : P (.own l ts)) : wVar 12 (x0 :: x1 :: x2 :: x3 :: x4 :: x5 :: x6 :: x7 :: x8 :: x9 :: x10 :: x11 :: .own l ts :: sl) P := x_varo rfl h
theorem x_v13 {x0 x1 x2 x3 x4 x5 x6 x7 x8 x9 x10 x11 x12 : Sl} (h : P (.val t)) : wVar 13 (x0 :: x1 :: x2 :: x3 :: x4 :: x5 :: x6 :: x7 :: x8 :: x9 :: x10 :: x11 :: x12 :: .val t :: sl) P := x_var rfl h
theorem x_d13 {x0 x1 x2 x3 x4 x5 x6 x7 x8 x9 x10 x11 x12 : Sl} (h : P .dice) : wVar 13 (x0 :: x1 :: x2 :: x3 :: x4 :: x5 :: x6 :: x7 :: x8 :: x9 :: x10 :: x11 :: x12 :: .dice :: sl) P := x_vard rfl h
theorem x_o13 {x0 x1 x2 x3 x4 x5 x6 x7 x8 x9 x10 x11 x12 : Sl} {l : Addr} (h : P (.own l ts)) : wVar 13 (x0 :: x1 :: x2 :: x3 :: x4 :: x5 :: x6 :: x7 :: x8 :: x9 :: x10 :: x11 :: x12 :: .own l ts :: sl) P := x_varo rfl h
theorem x_v14 {x0 x1 x2 x3 x4 x5 x6 x7 x8 x9 x10 x11 x12 x13 : Sl} (h : P (.val t)) : wVar 14 (x0 :: x1 :: x2 :: x3 :: x4 :: x5 :: x6 :: x7 :: x8 :: x9 :: x10 :: x11 :: x12 :: x13 :: .val t :: sl) P := x_var rfl h
theorem x_d14 {x0 x1 x2 x3 x4 x5 x6 x7 x8 x9 x10 x11 x12 x13 : Sl} (h : P .dice) : wVar 14 (x0 :: x1 :: x2 :: x3 :: x4 :: x5 :: x6 :: x7 :: x8 :: x9 :: x10 :: x11 :: x12 :: x13 :: .dice :: sl) P := x_vard rfl h
theorem x_o14 {x0 x1 x2 x3 x4 x5 x6 x7 x8 x9 x10 x11 x12 x13 : Sl} {l : Addr} (h : P (.own l ts)) : wVar 14 (x0 :: x1 :: x2 :: x3 :: x4 :: x5 :: x6 :: x7 :: x8 :: x9 :: x10 :: x11 :: x12 :: x13 :: .own l ts :: sl) P := x_varo rfl h
theorem x_v15 {x0 x1 x2 x3 x4 x5 x6 x7 x8 x9 x10 x11 x12 x13 x14 : Sl} (h : P (.val t)) : wVar 15 (x0 :: x1 :: x2 :: x3 :: x4 :: x5 :: x6 :: x7 :: x8 :: x9 :: x10 :: x11 :: x12 :: x13 :: x14 :: .val t :: sl) P := x_var rfl h
theorem x_d15 {x0 x1 x2 x3 x4 x5 x6 x7 x8 x9 x10 x11 x12 x13 x14 : Sl} (h : P .dice) : wVar 15 (x0 :: x1 :: x2 :: x3 :: x4 :: x5 :: x6 :: x7 :: x8 :: x9 :: x10 :: x11 :: x12 :: x13 :: x14 :: .dice :: sl) P := x_vard rfl h
theorem x_o15 {x0 x1 x2 x3 x4 x5 x6 x7 x8 x9 x10 x11 x12 x13 x14 : Sl} {l : Addr} (h : P (.own l ts)) : wVar 15 (x0 :: x1 :: x2 :: x3 :: x4 :: x5 :: x6 :: x7 :: x8 :: x9 :: x10 :: x11 :: x12 :: x13 :: x14 :: .own l ts :: sl) P := x_varo rfl h
theorem x_v16 {x0 x1 x2 x3 x4 x5 x6 x7 x8 x9 x10 x11 x12 x13 x14 x15 : Sl} (h : P (.val t)) : wVar 16 (x0 :: x1 :: x2 :: x3 :: x4 :: x5 :: x6 :: x7 :: x8 :: x9 :: x10 :: x11 :: x12 :: x13 :: x14 :: x15 :: .val t :: sl) P := x_var rfl h
theorem x_d16 {x0 x1 x2 x3 x4 x5 x6 x7 x8 x9 x10 x11 x12 x13 x14 x15 : Sl} (h : P .dice) : wVar 16 (x0 :: x1 :: x2 :: x3 :: x4 :: x5 :: x6 :: x7 :: x8 :: x9 :: x10 :: x11 :: x12 :: x13 :: x14 :: x15 :: .dice :: sl) P := x_vard rfl h
theorem x_o16 {x0 x1 x2 x3 x4 x5 x6 x7 x8 x9 x10 x11 x12 x13 x14 x15 : Sl} {l : Addr} (h : P (.own l ts)) : wVar 16 (x0 :: x1 :: x2 :: x3 :: x4 :: x5 :: x6 :: x7 :: x8 :: x9 :: x10 :: x11 :: x12 :: x13 :: x14 :: x15 :: .own l ts :: sl) P := x_varo rfl h
theorem x_v17 {x0 x1 x2 x3 x4 x5 x6 x7 x8 x9 x10 x11 x12 x13 x14 x15 x16 : Sl} (h : P (.val t)) : wVar 17 (x0 :: x1 :: x2 :: x3 :: x4 :: x5 :: x6 :: x7 :: x8 :: x9 :: x10 :: x11 :: x12 :: x13 :: x14 :: x15 :: x16 :: .val t :: sl) P := x_var rfl h
theorem x_d17 {x0 x1 x2 x3 x4 x5 x6 x7 x8 x9 x10 x11 x12 x13 x14 x15 x16 : Sl} (h : P .dice) : wVar 17 (x0 :: x1 :: x2 :: x3 :: x4 :: x5 :: x6 :: x7 :: x8 :: x9 :: x10 :: x11 :: x12 :: x13 :: x14 :: x15 :: x16 :: .dice :: sl) P := x_vard rfl h
theorem x_o17 {x0 x1 x2 x3 x4 x5 x6 x7 x8 x9 x10 x11 x12 x13 x14 x15 x16 : Sl} {l : Addr} (h : P (.own l ts)) : wVar 17 (x0 :: x1 :: x2 :: x3 :: x4 :: x5 :: x6 :: x7 :: x8 :: x9 :: x10 :: x11 :: x12 :: x13 :: x14 :: x15 :: x16 :: .own l ts :: sl) P := x_varo rfl h
theorem x_C (h : P (.val t)) : wC t sl P := h
theorem x_dct (h : P (.val (.dct [] []))) : wDct0 sl P := h
theorem x_op {g : T → T → Option T} (h : a sl fun x => b sl fun y => opG g P x y) : wOp g a b sl P := h
theorem x_opvv {g : T → T → Option T} (h : op2 g P s t) : opG g P (.val s) (.val t) := let ⟨z, e, q⟩ := h; ⟨s, t, z, rfl, rfl, e, q⟩
theorem x_opov {l : Addr} {g : T → T → Option T} (h : op2 g P (.lst ts) t) : opG g P (.own l ts) (.val t) := let ⟨z, e, q⟩ := h; ⟨_, t, z, rfl, rfl, e, q⟩
theorem x_opvo {l : Addr} {g : T → T → Option T} (h : op2 g P s (.lst ts)) : opG g P (.val s) (.own l ts) := let ⟨z, e, q⟩ := h; ⟨s, _, z, rfl, rfl, e, q⟩
theorem x_opoo {k l : Addr} {g : T → T → Option T} (h : op2 g P (.lst ts) (.lst us)) : opG g P (.own k ts) (.own l us) := let ⟨z, e, q⟩ := h; ⟨_, _, z, rfl, rfl, e, q⟩
theorem x_op2 {g : T → T → Option T} (e : g s t = some z) (h : P (.val z)) : op2 g P s t := ⟨z, e, h⟩
theorem x_eq (h : P (.val (.bl (decide (m = n))))) : op2 eqT P (.int m) (.int n) := ⟨_, rfl, h⟩
theorem x_ne (h : P (.val (.bl (!decide (m = n))))) : op2 neT P (.int m) (.int n) := ⟨_, rfl, h⟩
theorem x_lt (h : P (.val (.bl (decide (m < n))))) : op2 ltT P (.int m) (.int n) := ⟨_, rfl, h⟩
theorem x_le (h : P (.val (.bl (decide (m ≤ n))))) : op2 leT P (.int m) (.int n) := ⟨_, rfl, h⟩
theorem x_gt (h : P (.val (.bl (decide (n < m))))) : op2 gtT P (.int m) (.int n) := ⟨_, rfl, h⟩
theorem x_ge (h : P (.val (.bl (decide (n ≤ m))))) : op2 geT P (.int m) (.int n) := ⟨_, rfl, h⟩
theorem x_add (h : P (.val (.int (m + n)))) : op2 addT P (.int m) (.int n) := ⟨_, rfl, h⟩
theorem x_sub (h : P (.val (.int (m - n)))) : op2 subT P (.int m) (.int n) := ⟨_, rfl, h⟩
def okV (v : Bool) : Option T → Bool
  | some (.bl b) => b == v
  | _ => false
theorem okV_of {v : Bool} {o : Option T} (h : okV v o = true) : o = some (.bl v) := by
  unfold okV at h
  split at h
  · rw [eq_of_beq h]
  · cases h
theorem x_keqTt (e : okV true (eqT s t) = true) (h : P (.val (.bl true))) : op2 eqT P s t := ⟨_, okV_of e, h⟩
theorem x_keqTf (e : okV false (eqT s t) = true) (h : P (.val (.bl false))) : op2 eqT P s t := ⟨_, okV_of e, h⟩
theorem x_kneTt (e : okV true (neT s t) = true) (h : P (.val (.bl true))) : op2 neT P s t := ⟨_, okV_of e, h⟩
theorem x_kneTf (e : okV false (neT s t) = true) (h : P (.val (.bl false))) : op2 neT P s t := ⟨_, okV_of e, h⟩
theorem x_mul (e : wide m n = true) (h : P (.val (.int (m * n)))) : op2 mulT P (.int m) (.int n) := ⟨_, by rw [mulT_int, if_pos e], h⟩
theorem x_mod (e : 0 < n) (h : P (.val (.int (m % n)))) : op2 modT P (.int m) (.int n) := ⟨_, by rw [modT_int, if_pos (decide_eq_true e)], h⟩
theorem divOk_s (h0 : 0 < n) (h : n < 2 ^ 64) : divOk n = true := by
  unfold divOk
  rw [Bool.and_eq_true]
  exact ⟨decide_eq_true h0, decide_eq_true (Nat.lt_of_lt_of_le (PySem.Flt.log2_lt_of (k := 64) (by decide) (by omega)) (by decide))⟩
theorem x_div (e : divOk n = true) (h : P (.val (.int (m / n)))) : op2 divT P (.int m) (.int n) := ⟨_, by rw [divT_int, if_pos e], h⟩
theorem x_addt (e : ts.length + us.length ≤ 1000000) (h : P (.val (.tup (ts ++ us)))) : op2 addT P (.tup ts) (.tup us) := ⟨_, addT_tup.trans (if_pos (decide_eq_true e)), h⟩
theorem x_addl (e : ts.length + us.length ≤ 1000000) (h : P (.val (.lst (ts ++ us)))) : op2 addT P (.lst ts) (.lst us) := ⟨_, addT_lst.trans (if_pos (decide_eq_true e)), h⟩
theorem x_adds {p q : Str} (e : p.length + q.length ≤ 1000000) (h : P (.val (.str (p ++ q)))) : op2 addT P (.str p) (.str q) := ⟨_, if_pos (decide_eq_true e), h⟩
theorem x_ixtup0 (h : P (.val t)) : op2 ixT P (.tup (t :: ts)) (.int 0) := ⟨_, atI_ok (by decide) rfl, h⟩
theorem x_ixtup1 {t0 : T} (h : P (.val t)) : op2 ixT P (.tup (t0 :: t :: ts)) (.int 1) := ⟨_, atI_ok (by decide) rfl, h⟩
theorem x_ixtup2 {t0 t1 : T} (h : P (.val t)) : op2 ixT P (.tup (t0 :: t1 :: t :: ts)) (.int 2) := ⟨_, atI_ok (by decide) rfl, h⟩
theorem x_ixtup3 {t0 t1 t2 : T} (h : P (.val t)) : op2 ixT P (.tup (t0 :: t1 :: t2 :: t :: ts)) (.int 3) := ⟨_, atI_ok (by decide) rfl, h⟩
theorem x_ixtup4 {t0 t1 t2 t3 : T} (h : P (.val t)) : op2 ixT P (.tup (t0 :: t1 :: t2 :: t3 :: t :: ts)) (.int 4) := ⟨_, atI_ok (by decide) rfl, h⟩
theorem x_ixtup5 {t0 t1 t2 t3 t4 : T} (h : P (.val t)) : op2 ixT P (.tup (t0 :: t1 :: t2 :: t3 :: t4 :: t :: ts)) (.int 5) := ⟨_, atI_ok (by decide) rfl, h⟩
theorem x_ixtup6 {t0 t1 t2 t3 t4 t5 : T} (h : P (.val t)) : op2 ixT P (.tup (t0 :: t1 :: t2 :: t3 :: t4 :: t5 :: t :: ts)) (.int 6) := ⟨_, atI_ok (by decide) rfl, h⟩
theorem x_ixtup7 {t0 t1 t2 t3 t4 t5 t6 : T} (h : P (.val t)) : op2 ixT P (.tup (t0 :: t1 :: t2 :: t3 :: t4 :: t5 :: t6 :: t :: ts)) (.int 7) := ⟨_, atI_ok (by decide) rfl, h⟩
theorem x_ixlst0 (h : P (.val t)) : op2 ixT P (.lst (t :: ts)) (.int 0) := ⟨_, atI_ok (by decide) rfl, h⟩
theorem x_ixlst1 {t0 : T} (h : P (.val t)) : op2 ixT P (.lst (t0 :: t :: ts)) (.int 1) := ⟨_, atI_ok (by decide) rfl, h⟩
theorem x_ixlst2 {t0 t1 : T} (h : P (.val t)) : op2 ixT P (.lst (t0 :: t1 :: t :: ts)) (.int 2) := ⟨_, atI_ok (by decide) rfl, h⟩
theorem x_ixlst3 {t0 t1 t2 : T} (h : P (.val t)) : op2 ixT P (.lst (t0 :: t1 :: t2 :: t :: ts)) (.int 3) := ⟨_, atI_ok (by decide) rfl, h⟩
theorem x_ixlst4 {t0 t1 t2 t3 : T} (h : P (.val t)) : op2 ixT P (.lst (t0 :: t1 :: t2 :: t3 :: t :: ts)) (.int 4) := ⟨_, atI_ok (by decide) rfl, h⟩
theorem x_ixlst5 {t0 t1 t2 t3 t4 : T} (h : P (.val t)) : op2 ixT P (.lst (t0 :: t1 :: t2 :: t3 :: t4 :: t :: ts)) (.int 5) := ⟨_, atI_ok (by decide) rfl, h⟩
theorem x_ixlst6 {t0 t1 t2 t3 t4 t5 : T} (h : P (.val t)) : op2 ixT P (.lst (t0 :: t1 :: t2 :: t3 :: t4 :: t5 :: t :: ts)) (.int 6) := ⟨_, atI_ok (by decide) rfl, h⟩
theorem x_ixlst7 {t0 t1 t2 t3 t4 t5 t6 : T} (h : P (.val t)) : op2 ixT P (.lst (t0 :: t1 :: t2 :: t3 :: t4 :: t5 :: t6 :: t :: ts)) (.int 7) := ⟨_, atI_ok (by decide) rfl, h⟩
theorem x_un {g : T → Option T} (h : a sl fun x => unG g P x) : wUn g a sl P := h
theorem x_neg (h : P (.val (.int (-m)))) : unG negT P (.val (.int m)) := ⟨_, _, rfl, rfl, h⟩
theorem x_ch2 {g : T → T → Option T} (h : op2 g P s t) : ch2 g P s (.val t) := let ⟨z, e, q⟩ := h; ⟨t, z, rfl, e, q⟩
theorem x_ch {g h : T → T → Option T} (q : a sl fun x => b sl fun y => chG g h c sl P x y) : wChain g h a b c sl P := q
theorem x_cheq {g : T → T → Option T} (q : ifG (c sl fun z => ch2 g P (.int n) z) (P (.val (.bl false))) (decide (m = n))) : chG eqT g c sl P (.val (.int m)) (.val (.int n)) := ⟨_, _, _, rfl, rfl, rfl, q⟩
theorem x_chlt {g : T → T → Option T} (q : ifG (c sl fun z => ch2 g P (.int n) z) (P (.val (.bl false))) (decide (m < n))) : chG ltT g c sl P (.val (.int m)) (.val (.int n)) := ⟨_, _, _, rfl, rfl, rfl, q⟩
theorem x_chle {g : T → T → Option T} (q : ifG (c sl fun z => ch2 g P (.int n) z) (P (.val (.bl false))) (decide (m ≤ n))) : chG leT g c sl P (.val (.int m)) (.val (.int n)) := ⟨_, _, _, rfl, rfl, rfl, q⟩
theorem x_chgt {g : T → T → Option T} (q : ifG (c sl fun z => ch2 g P (.int n) z) (P (.val (.bl false))) (decide (n < m))) : chG gtT g c sl P (.val (.int m)) (.val (.int n)) := ⟨_, _, _, rfl, rfl, rfl, q⟩
theorem x_chge {g : T → T → Option T} (q : ifG (c sl fun z => ch2 g P (.int n) z) (P (.val (.bl false))) (decide (n ≤ m))) : chG geT g c sl P (.val (.int m)) (.val (.int n)) := ⟨_, _, _, rfl, rfl, rfl, q⟩
theorem x_isN {neg : Bool} (h : a sl fun x => isNG neg P x) : wIsN neg a sl P := h
theorem x_isN0n (h : P (.val (.bl true))) : isNG false P (.val .non) := ⟨_, rfl, h⟩
theorem x_isN1n (h : P (.val (.bl false))) : isNG true P (.val .non) := ⟨_, rfl, h⟩
theorem x_isN0b {v : Bool} (h : P (.val (.bl false))) : isNG false P (.val (.bl v)) := ⟨_, rfl, h⟩
theorem x_isN1b {v : Bool} (h : P (.val (.bl true))) : isNG true P (.val (.bl v)) := ⟨_, rfl, h⟩
theorem x_isN0i (h : P (.val (.bl false))) : isNG false P (.val (.int m)) := ⟨_, rfl, h⟩
theorem x_isN1i (h : P (.val (.bl true))) : isNG true P (.val (.int m)) := ⟨_, rfl, h⟩
theorem x_isN0s {p : Str} (h : P (.val (.bl false))) : isNG false P (.val (.str p)) := ⟨_, rfl, h⟩
theorem x_isN1s {p : Str} (h : P (.val (.bl true))) : isNG true P (.val (.str p)) := ⟨_, rfl, h⟩
theorem x_isN0t (h : P (.val (.bl false))) : isNG false P (.val (.tup ts)) := ⟨_, rfl, h⟩
theorem x_isN1t (h : P (.val (.bl true))) : isNG true P (.val (.tup ts)) := ⟨_, rfl, h⟩
theorem x_isN0l (h : P (.val (.bl false))) : isNG false P (.val (.lst ts)) := ⟨_, rfl, h⟩
theorem x_isN1l (h : P (.val (.bl true))) : isNG true P (.val (.lst ts)) := ⟨_, rfl, h⟩
theorem x_isN0d {ks : List Key} (h : P (.val (.bl false))) : isNG false P (.val (.dct ks ts)) := ⟨_, rfl, h⟩
theorem x_isN1d {ks : List Key} (h : P (.val (.bl true))) : isNG true P (.val (.dct ks ts)) := ⟨_, rfl, h⟩
theorem x_isN0I {C : Addr} {ns : List Str} (h : P (.val (.bl false))) : isNG false P (.val (.ins C ns ts)) := ⟨_, rfl, h⟩
theorem x_isN1I {C : Addr} {ns : List Str} (h : P (.val (.bl true))) : isNG true P (.val (.ins C ns ts)) := ⟨_, rfl, h⟩
theorem x_nil {q : List Sl → Prop} (h : q []) : waNil sl q := h
theorem x_cons {r : WA} {q : List Sl → Prop} (h : a sl fun x => r sl fun xs => q (x :: xs)) : waCons a r sl q := h
theorem x_tup {e : WA} (h : e sl fun xs => tupG P xs) : wTup e sl P := h
theorem x_Lst {e : WA} {q : List T → Prop} (h : e sl fun xs => lstG q xs) : wLst e sl q := h
theorem x_tup0 (h : P (.val (.tup []))) : tupG P [] := ⟨[], rfl, (show 0 ≤ 1000000 by decide), h⟩
theorem x_lst0 {q : List T → Prop} (h : q []) : lstG q [] := ⟨[], rfl, (show 0 ≤ 1000000 by decide), h⟩
theorem x_tup1 {t0 : T} (h : P (.val (.tup [t0]))) : tupG P [.val t0] := ⟨[t0], rfl, (show 1 ≤ 1000000 by decide), h⟩
theorem x_lst1 {q : List T → Prop} {t0 : T} (h : q [t0]) : lstG q [.val t0] := ⟨[t0], rfl, (show 1 ≤ 1000000 by decide), h⟩
theorem x_tup2 {t0 t1 : T} (h : P (.val (.tup [t0, t1]))) : tupG P [.val t0, .val t1] := ⟨[t0, t1], rfl, (show 2 ≤ 1000000 by decide), h⟩
theorem x_lst2 {q : List T → Prop} {t0 t1 : T} (h : q [t0, t1]) : lstG q [.val t0, .val t1] := ⟨[t0, t1], rfl, (show 2 ≤ 1000000 by decide), h⟩
theorem x_tup3 {t0 t1 t2 : T} (h : P (.val (.tup [t0, t1, t2]))) : tupG P [.val t0, .val t1, .val t2] := ⟨[t0, t1, t2], rfl, (show 3 ≤ 1000000 by decide), h⟩
theorem x_lst3 {q : List T → Prop} {t0 t1 t2 : T} (h : q [t0, t1, t2]) : lstG q [.val t0, .val t1, .val t2] := ⟨[t0, t1, t2], rfl, (show 3 ≤ 1000000 by decide), h⟩
theorem x_tup4 {t0 t1 t2 t3 : T} (h : P (.val (.tup [t0, t1, t2, t3]))) : tupG P [.val t0, .val t1, .val t2, .val t3] := ⟨[t0, t1, t2, t3], rfl, (show 4 ≤ 1000000 by decide), h⟩
theorem x_lst4 {q : List T → Prop} {t0 t1 t2 t3 : T} (h : q [t0, t1, t2, t3]) : lstG q [.val t0, .val t1, .val t2, .val t3] := ⟨[t0, t1, t2, t3], rfl, (show 4 ≤ 1000000 by decide), h⟩
theorem x_tup5 {t0 t1 t2 t3 t4 : T} (h : P (.val (.tup [t0, t1, t2, t3, t4]))) : tupG P [.val t0, .val t1, .val t2, .val t3, .val t4] := ⟨[t0, t1, t2, t3, t4], rfl, (show 5 ≤ 1000000 by decide), h⟩
theorem x_lst5 {q : List T → Prop} {t0 t1 t2 t3 t4 : T} (h : q [t0, t1, t2, t3, t4]) : lstG q [.val t0, .val t1, .val t2, .val t3, .val t4] := ⟨[t0, t1, t2, t3, t4], rfl, (show 5 ≤ 1000000 by decide), h⟩
theorem x_tup6 {t0 t1 t2 t3 t4 t5 : T} (h : P (.val (.tup [t0, t1, t2, t3, t4, t5]))) : tupG P [.val t0, .val t1, .val t2, .val t3, .val t4, .val t5] := ⟨[t0, t1, t2, t3, t4, t5], rfl, (show 6 ≤ 1000000 by decide), h⟩
theorem x_lst6 {q : List T → Prop} {t0 t1 t2 t3 t4 t5 : T} (h : q [t0, t1, t2, t3, t4, t5]) : lstG q [.val t0, .val t1, .val t2, .val t3, .val t4, .val t5] := ⟨[t0, t1, t2, t3, t4, t5], rfl, (show 6 ≤ 1000000 by decide), h⟩
theorem x_tup7 {t0 t1 t2 t3 t4 t5 t6 : T} (h : P (.val (.tup [t0, t1, t2, t3, t4, t5, t6]))) : tupG P [.val t0, .val t1, .val t2, .val t3, .val t4, .val t5, .val t6] := ⟨[t0, t1, t2, t3, t4, t5, t6], rfl, (show 7 ≤ 1000000 by decide), h⟩
theorem x_lst7 {q : List T → Prop} {t0 t1 t2 t3 t4 t5 t6 : T} (h : q [t0, t1, t2, t3, t4, t5, t6]) : lstG q [.val t0, .val t1, .val t2, .val t3, .val t4, .val t5, .val t6] := ⟨[t0, t1, t2, t3, t4, t5, t6], rfl, (show 7 ≤ 1000000 by decide), h⟩
theorem x_tup8 {t0 t1 t2 t3 t4 t5 t6 t7 : T} (h : P (.val (.tup [t0, t1, t2, t3, t4, t5, t6, t7]))) : tupG P [.val t0, .val t1, .val t2, .val t3, .val t4, .val t5, .val t6, .val t7] := ⟨[t0, t1, t2, t3, t4, t5, t6, t7], rfl, (show 8 ≤ 1000000 by decide), h⟩
theorem x_lst8 {q : List T → Prop} {t0 t1 t2 t3 t4 t5 t6 t7 : T} (h : q [t0, t1, t2, t3, t4, t5, t6, t7]) : lstG q [.val t0, .val t1, .val t2, .val t3, .val t4, .val t5, .val t6, .val t7] := ⟨[t0, t1, t2, t3, t4, t5, t6, t7], rfl, (show 8 ≤ 1000000 by decide), h⟩
theorem x_tup9 {t0 t1 t2 t3 t4 t5 t6 t7 t8 : T} (h : P (.val (.tup [t0, t1, t2, t3, t4, t5, t6, t7, t8]))) : tupG P [.val t0, .val t1, .val t2, .val t3, .val t4, .val t5, .val t6, .val t7, .val t8] := ⟨[t0, t1, t2, t3, t4, t5, t6, t7, t8], rfl, (show 9 ≤ 1000000 by decide), h⟩
theorem x_lst9 {q : List T → Prop} {t0 t1 t2 t3 t4 t5 t6 t7 t8 : T} (h : q [t0, t1, t2, t3, t4, t5, t6, t7, t8]) : lstG q [.val t0, .val t1, .val t2, .val t3, .val t4, .val t5, .val t6, .val t7, .val t8] := ⟨[t0, t1, t2, t3, t4, t5, t6, t7, t8], rfl, (show 9 ≤ 1000000 by decide), h⟩
theorem x_tup10 {t0 t1 t2 t3 t4 t5 t6 t7 t8 t9 : T} (h : P (.val (.tup [t0, t1, t2, t3, t4, t5, t6, t7, t8, t9]))) : tupG P [.val t0, .val t1, .val t2, .val t3, .val t4, .val t5, .val t6, .val t7, .val t8, .val t9] := ⟨[t0, t1, t2, t3, t4, t5, t6, t7, t8, t9], rfl, (show 10 ≤ 1000000 by decide), h⟩
theorem x_lst10 {q : List T → Prop} {t0 t1 t2 t3 t4 t5 t6 t7 t8 t9 : T} (h : q [t0, t1, t2, t3, t4, t5, t6, t7, t8, t9]) : lstG q [.val t0, .val t1, .val t2, .val t3, .val t4, .val t5, .val t6, .val t7, .val t8, .val t9] := ⟨[t0, t1, t2, t3, t4, t5, t6, t7, t8, t9], rfl, (show 10 ≤ 1000000 by decide), h⟩
theorem x_tup11 {t0 t1 t2 t3 t4 t5 t6 t7 t8 t9 t10 : T} (h : P (.val (.tup [t0, t1, t2, t3, t4, t5, t6, t7, t8, t9, t10]))) : tupG P [.val t0, .val t1, .val t2, .val t3, .val t4, .val t5, .val t6, .val t7, .val t8, .val t9, .val t10] := ⟨[t0, t1, t2, t3, t4, t5, t6, t7, t8, t9, t10], rfl, (show 11 ≤ 1000000 by decide), h⟩
theorem x_lst11 {q : List T → Prop} {t0 t1 t2 t3 t4 t5 t6 t7 t8 t9 t10 : T} (h : q [t0, t1, t2, t3, t4, t5, t6, t7, t8, t9, t10]) : lstG q [.val t0, .val t1, .val t2, .val t3, .val t4, .val t5, .val t6, .val t7, .val t8, .val t9, .val t10] := ⟨[t0, t1, t2, t3, t4, t5, t6, t7, t8, t9, t10], rfl, (show 11 ≤ 1000000 by decide), h⟩
theorem x_tup12 {t0 t1 t2 t3 t4 t5 t6 t7 t8 t9 t10 t11 : T} (h : P (.val (.tup [t0, t1, t2, t3, t4, t5, t6, t7, t8, t9, t10, t11]))) : tupG P [.val t0, .val t1, .val t2, .val t3, .val t4, .val t5, .val t6, .val t7, .val t8, .val t9, .val t10, .val t11] := ⟨[t0, t1, t2, t3, t4, t5, t6, t7, t8, t9, t10, t11], rfl, (show 12 ≤ 1000000 by decide), h⟩
theorem x_lst12 {q : List T → Prop} {t0 t1 t2 t3 t4 t5 t6 t7 t8 t9 t10 t11 : T} (h : q [t0, t1, t2, t3, t4, t5, t6, t7, t8, t9, t10, t11]) : lstG q [.val t0, .val t1, .val t2, .val t3, .val t4, .val t5, .val t6, .val t7, .val t8, .val t9, .val t10, .val t11] := ⟨[t0, t1, t2, t3, t4, t5, t6, t7, t8, t9, t10, t11], rfl, (show 12 ≤ 1000000 by decide), h⟩
theorem x_tup13 {t0 t1 t2 t3 t4 t5 t6 t7 t8 t9 t10 t11 t12 : T} (h : P (.val (.tup [t0, t1, t2, t3, t4, t5, t6, t7, t8, t9, t10, t11, t12]))) : tupG P [.val t0, .val t1, .val t2, .val t3, .val t4, .val t5, .val t6, .val t7, .val t8, .val t9, .val t10, .val t11, .val t12] := ⟨[t0, t1, t2, t3, t4, t5, t6, t7, t8, t9, t10, t11, t12], rfl, (show 13 ≤ 1000000 by decide), h⟩
theorem x_lst13 {q : List T → Prop} {t0 t1 t2 t3 t4 t5 t6 t7 t8 t9 t10 t11 t12 : T} (h : q [t0, t1, t2, t3, t4, t5, t6, t7, t8, t9, t10, t11, t12]) : lstG q [.val t0, .val t1, .val t2, .val t3, .val t4, .val t5, .val t6, .val t7, .val t8, .val t9, .val t10, .val t11, .val t12] := ⟨[t0, t1, t2, t3, t4, t5, t6, t7, t8, t9, t10, t11, t12], rfl, (show 13 ≤ 1000000 by decide), h⟩
theorem x_L {e : WL} (h : e sl fun ts => P (.val (.lst ts))) : wL e sl P := h
theorem x_lof {e : WA} {q : List T → Prop} (h : e sl fun xs => lofG q xs) : wLstOf e sl q := h
theorem x_loflst {q : List T → Prop} (h : q ts) : lofG q [.val (.lst ts)] := ⟨_, _, _, rfl, rfl, rfl, h⟩
theorem x_loftup {q : List T → Prop} (h : q ts) : lofG q [.val (.tup ts)] := ⟨_, _, _, rfl, rfl, rfl, h⟩
theorem x_lofscr {q : List T → Prop} (h : q ts) : lofG q [.val (.scr ts)] := ⟨_, _, _, rfl, rfl, rfl, h⟩
theorem x_lofo {l : Addr} {q : List T → Prop} (h : q ts) : lofG q [.own l ts] := ⟨_, _, _, rfl, rfl, rfl, h⟩
theorem x_sl {p q : WO} (h : a sl fun x => p sl fun lo => q sl fun hi => slG P x lo hi) : wSl a p q sl P := h
theorem x_slt {lo hi : Option Int} (h : P (.val (.tup (cutT ts lo hi)))) : slG P (.val (.tup ts)) lo hi := ⟨_, _, rfl, rfl, h⟩
theorem x_sll {lo hi : Option Int} (h : P (.val (.lst (cutT ts lo hi)))) : slG P (.val (.lst ts)) lo hi := ⟨_, _, rfl, rfl, h⟩
theorem x_slo {k : Addr} {lo hi : Option Int} (h : P (.val (.lst (cutT ts lo hi)))) : slG P (.own k ts) lo hi := ⟨_, _, rfl, rfl, h⟩
theorem x_sls {p : Str} {lo hi : Option Int} (e : p.length ≤ 1000000) (h : P (.val (.str (cutS p lo hi)))) : slG P (.val (.str p)) lo hi := ⟨_, _, rfl, if_pos (decide_eq_true e), h⟩
theorem x_oN {q : Option Int → Prop} (h : q none) : woNone sl q := h
theorem x_oS {q : Option Int → Prop} (h : a sl fun x => osG q x) : woSome a sl q := h
theorem x_oSv {q : Option Int → Prop} (h : q (some m)) : osG q (.val (.int m)) := ⟨m, rfl, h⟩
theorem x_cb {g : List T → Option T} {e : WA} (h : e sl fun xs => cbG g P xs) : wCB g e sl P := h
theorem x_lenlst (h : P (.val (.int ts.length))) : cbG lenT P [.val (.lst ts)] := ⟨_, _, rfl, rfl, h⟩
theorem x_tupoflst (h : P (.val (.tup ts))) : cbG tupleT P [.val (.lst ts)] := ⟨_, _, rfl, rfl, h⟩
theorem x_lentup (h : P (.val (.int ts.length))) : cbG lenT P [.val (.tup ts)] := ⟨_, _, rfl, rfl, h⟩
theorem x_tupoftup (h : P (.val (.tup ts))) : cbG tupleT P [.val (.tup ts)] := ⟨_, _, rfl, rfl, h⟩
theorem x_lenscr (h : P (.val (.int ts.length))) : cbG lenT P [.val (.scr ts)] := ⟨_, _, rfl, rfl, h⟩
theorem x_tupofscr (h : P (.val (.tup ts))) : cbG tupleT P [.val (.scr ts)] := ⟨_, _, rfl, rfl, h⟩
theorem x_leno {l : Addr} (h : P (.val (.int ts.length))) : cbG lenT P [.own l ts] := ⟨_, _, rfl, rfl, h⟩
theorem x_tupofo {l : Addr} (h : P (.val (.tup ts))) : cbG tupleT P [.own l ts] := ⟨_, _, rfl, rfl, h⟩
theorem x_lens {p : Str} (e : p.length ≤ 1000000) (h : P (.val (.int p.length))) : cbG lenT P [.val (.str p)] := ⟨_, _, rfl, if_pos (decide_eq_true e), h⟩
theorem x_intb (h : P (.val (.int 1))) : cbG intT P [.val (.bl true)] := ⟨_, _, rfl, rfl, h⟩
theorem x_intb0 (h : P (.val (.int 0))) : cbG intT P [.val (.bl false)] := ⟨_, _, rfl, rfl, h⟩
theorem x_inti (h : P (.val (.int m))) : cbG intT P [.val (.int m)] := ⟨_, _, rfl, rfl, h⟩
theorem x_max2 (h : P (.val (.int (if n > m then n else m)))) : cbG max2T P [.val (.int m), .val (.int n)] := ⟨_, _, rfl, rfl, h⟩
theorem x_min2 (h : P (.val (.int (if n < m then n else m)))) : cbG min2T P [.val (.int m), .val (.int n)] := ⟨_, _, rfl, rfl, h⟩
theorem x_abs (h : P (.val (.int (if m < 0 then -m else m)))) : cbG absT P [.val (.int m)] := ⟨_, _, rfl, rfl, h⟩
theorem x_isinint (h : P (.val (.bl false))) : cbG isiT P [.val .non, .val (.ty "int")] := ⟨_, _, rfl, (isi_non).trans (by rw [kb_NoneType_int]; rfl), h⟩
theorem x_isinbool (h : P (.val (.bl false))) : cbG isiT P [.val .non, .val (.ty "bool")] := ⟨_, _, rfl, (isi_non).trans (by rw [kb_NoneType_bool]; rfl), h⟩
theorem x_isinstr (h : P (.val (.bl false))) : cbG isiT P [.val .non, .val (.ty "str")] := ⟨_, _, rfl, (isi_non).trans (by rw [kb_NoneType_str]; rfl), h⟩
theorem x_isintuple (h : P (.val (.bl false))) : cbG isiT P [.val .non, .val (.ty "tuple")] := ⟨_, _, rfl, (isi_non).trans (by rw [kb_NoneType_tuple]; rfl), h⟩
theorem x_isinlist (h : P (.val (.bl false))) : cbG isiT P [.val .non, .val (.ty "list")] := ⟨_, _, rfl, (isi_non).trans (by rw [kb_NoneType_list]; rfl), h⟩
theorem x_isindict (h : P (.val (.bl false))) : cbG isiT P [.val .non, .val (.ty "dict")] := ⟨_, _, rfl, (isi_non).trans (by rw [kb_NoneType_dict]; rfl), h⟩
theorem x_isibint {v : Bool} (h : P (.val (.bl true))) : cbG isiT P [.val (.bl v), .val (.ty "int")] := ⟨_, _, rfl, (isi_bl).trans (by rw [kb_bool_int]; rfl), h⟩
theorem x_isibbool {v : Bool} (h : P (.val (.bl true))) : cbG isiT P [.val (.bl v), .val (.ty "bool")] := ⟨_, _, rfl, (isi_bl).trans (by rw [kb_bool_bool]; rfl), h⟩
theorem x_isibstr {v : Bool} (h : P (.val (.bl false))) : cbG isiT P [.val (.bl v), .val (.ty "str")] := ⟨_, _, rfl, (isi_bl).trans (by rw [kb_bool_str]; rfl), h⟩
theorem x_isibtuple {v : Bool} (h : P (.val (.bl false))) : cbG isiT P [.val (.bl v), .val (.ty "tuple")] := ⟨_, _, rfl, (isi_bl).trans (by rw [kb_bool_tuple]; rfl), h⟩
theorem x_isiblist {v : Bool} (h : P (.val (.bl false))) : cbG isiT P [.val (.bl v), .val (.ty "list")] := ⟨_, _, rfl, (isi_bl).trans (by rw [kb_bool_list]; rfl), h⟩
theorem x_isibdict {v : Bool} (h : P (.val (.bl false))) : cbG isiT P [.val (.bl v), .val (.ty "dict")] := ⟨_, _, rfl, (isi_bl).trans (by rw [kb_bool_dict]; rfl), h⟩
theorem x_isiiint (h : P (.val (.bl true))) : cbG isiT P [.val (.int m), .val (.ty "int")] := ⟨_, _, rfl, (isi_int).trans (by rw [kb_int_int]; rfl), h⟩
theorem x_isiibool (h : P (.val (.bl false))) : cbG isiT P [.val (.int m), .val (.ty "bool")] := ⟨_, _, rfl, (isi_int).trans (by rw [kb_int_bool]; rfl), h⟩
theorem x_isiistr (h : P (.val (.bl false))) : cbG isiT P [.val (.int m), .val (.ty "str")] := ⟨_, _, rfl, (isi_int).trans (by rw [kb_int_str]; rfl), h⟩
theorem x_isiituple (h : P (.val (.bl false))) : cbG isiT P [.val (.int m), .val (.ty "tuple")] := ⟨_, _, rfl, (isi_int).trans (by rw [kb_int_tuple]; rfl), h⟩
theorem x_isiilist (h : P (.val (.bl false))) : cbG isiT P [.val (.int m), .val (.ty "list")] := ⟨_, _, rfl, (isi_int).trans (by rw [kb_int_list]; rfl), h⟩
theorem x_isiidict (h : P (.val (.bl false))) : cbG isiT P [.val (.int m), .val (.ty "dict")] := ⟨_, _, rfl, (isi_int).trans (by rw [kb_int_dict]; rfl), h⟩
theorem x_isisint {p : Str} (h : P (.val (.bl false))) : cbG isiT P [.val (.str p), .val (.ty "int")] := ⟨_, _, rfl, (isi_str).trans (by rw [kb_str_int]; rfl), h⟩
theorem x_isisbool {p : Str} (h : P (.val (.bl false))) : cbG isiT P [.val (.str p), .val (.ty "bool")] := ⟨_, _, rfl, (isi_str).trans (by rw [kb_str_bool]; rfl), h⟩
theorem x_isisstr {p : Str} (h : P (.val (.bl true))) : cbG isiT P [.val (.str p), .val (.ty "str")] := ⟨_, _, rfl, (isi_str).trans (by rw [kb_str_str]; rfl), h⟩
theorem x_isistuple {p : Str} (h : P (.val (.bl false))) : cbG isiT P [.val (.str p), .val (.ty "tuple")] := ⟨_, _, rfl, (isi_str).trans (by rw [kb_str_tuple]; rfl), h⟩
theorem x_isislist {p : Str} (h : P (.val (.bl false))) : cbG isiT P [.val (.str p), .val (.ty "list")] := ⟨_, _, rfl, (isi_str).trans (by rw [kb_str_list]; rfl), h⟩
theorem x_isisdict {p : Str} (h : P (.val (.bl false))) : cbG isiT P [.val (.str p), .val (.ty "dict")] := ⟨_, _, rfl, (isi_str).trans (by rw [kb_str_dict]; rfl), h⟩
theorem x_isitint (h : P (.val (.bl false))) : cbG isiT P [.val (.tup ts), .val (.ty "int")] := ⟨_, _, rfl, (isi_tup).trans (by rw [kb_tuple_int]; rfl), h⟩
theorem x_isitbool (h : P (.val (.bl false))) : cbG isiT P [.val (.tup ts), .val (.ty "bool")] := ⟨_, _, rfl, (isi_tup).trans (by rw [kb_tuple_bool]; rfl), h⟩
theorem x_isitstr (h : P (.val (.bl false))) : cbG isiT P [.val (.tup ts), .val (.ty "str")] := ⟨_, _, rfl, (isi_tup).trans (by rw [kb_tuple_str]; rfl), h⟩
theorem x_isittuple (h : P (.val (.bl true))) : cbG isiT P [.val (.tup ts), .val (.ty "tuple")] := ⟨_, _, rfl, (isi_tup).trans (by rw [kb_tuple_tuple]; rfl), h⟩
theorem x_isitlist (h : P (.val (.bl false))) : cbG isiT P [.val (.tup ts), .val (.ty "list")] := ⟨_, _, rfl, (isi_tup).trans (by rw [kb_tuple_list]; rfl), h⟩
theorem x_isitdict (h : P (.val (.bl false))) : cbG isiT P [.val (.tup ts), .val (.ty "dict")] := ⟨_, _, rfl, (isi_tup).trans (by rw [kb_tuple_dict]; rfl), h⟩
theorem x_isilint (h : P (.val (.bl false))) : cbG isiT P [.val (.lst ts), .val (.ty "int")] := ⟨_, _, rfl, (isi_lst).trans (by rw [kb_list_int]; rfl), h⟩
theorem x_isilbool (h : P (.val (.bl false))) : cbG isiT P [.val (.lst ts), .val (.ty "bool")] := ⟨_, _, rfl, (isi_lst).trans (by rw [kb_list_bool]; rfl), h⟩
theorem x_isilstr (h : P (.val (.bl false))) : cbG isiT P [.val (.lst ts), .val (.ty "str")] := ⟨_, _, rfl, (isi_lst).trans (by rw [kb_list_str]; rfl), h⟩
theorem x_isiltuple (h : P (.val (.bl false))) : cbG isiT P [.val (.lst ts), .val (.ty "tuple")] := ⟨_, _, rfl, (isi_lst).trans (by rw [kb_list_tuple]; rfl), h⟩
theorem x_isillist (h : P (.val (.bl true))) : cbG isiT P [.val (.lst ts), .val (.ty "list")] := ⟨_, _, rfl, (isi_lst).trans (by rw [kb_list_list]; rfl), h⟩
theorem x_isildict (h : P (.val (.bl false))) : cbG isiT P [.val (.lst ts), .val (.ty "dict")] := ⟨_, _, rfl, (isi_lst).trans (by rw [kb_list_dict]; rfl), h⟩
theorem x_isidint {ks : List Key} (h : P (.val (.bl false))) : cbG isiT P [.val (.dct ks ts), .val (.ty "int")] := ⟨_, _, rfl, (isi_dct).trans (by rw [kb_dict_int]; rfl), h⟩
theorem x_isidbool {ks : List Key} (h : P (.val (.bl false))) : cbG isiT P [.val (.dct ks ts), .val (.ty "bool")] := ⟨_, _, rfl, (isi_dct).trans (by rw [kb_dict_bool]; rfl), h⟩
theorem x_isidstr {ks : List Key} (h : P (.val (.bl false))) : cbG isiT P [.val (.dct ks ts), .val (.ty "str")] := ⟨_, _, rfl, (isi_dct).trans (by rw [kb_dict_str]; rfl), h⟩
theorem x_isidtuple {ks : List Key} (h : P (.val (.bl false))) : cbG isiT P [.val (.dct ks ts), .val (.ty "tuple")] := ⟨_, _, rfl, (isi_dct).trans (by rw [kb_dict_tuple]; rfl), h⟩
theorem x_isidlist {ks : List Key} (h : P (.val (.bl false))) : cbG isiT P [.val (.dct ks ts), .val (.ty "list")] := ⟨_, _, rfl, (isi_dct).trans (by rw [kb_dict_list]; rfl), h⟩
theorem x_isiddict {ks : List Key} (h : P (.val (.bl true))) : cbG isiT P [.val (.dct ks ts), .val (.ty "dict")] := ⟨_, _, rfl, (isi_dct).trans (by rw [kb_dict_dict]; rfl), h⟩
theorem x_lc {wi : WI} {g : Tg} {wt : WT} {we : WE} {vs : List Nat} {q : List T → Prop} (h : wi sl fun ts => lcG g wt we (wipeS sl vs) q ts) : wLc wi g wt we vs sl q := h
theorem x_iseq {q : List T → Prop} (h : a sl fun x => seqG q x) : wiSeq a sl q := h
theorem x_seqlst {q : List T → Prop} (h : q ts) : seqG q (.val (.lst ts)) := ⟨_, _, rfl, rfl, h⟩
theorem x_seqtup {q : List T → Prop} (h : q ts) : seqG q (.val (.tup ts)) := ⟨_, _, rfl, rfl, h⟩
theorem x_seqscr {q : List T → Prop} (h : q ts) : seqG q (.val (.scr ts)) := ⟨_, _, rfl, rfl, h⟩
theorem x_istr {q : List T → Prop} (h : a sl fun x => wstG q x) : wiStr a sl q := h
theorem x_istrv {q : List T → Prop} {p : Str} (h : q (sgnT p)) : wstG q (.val (.str p)) := ⟨_, rfl, h⟩
theorem x_rg1 {e : WA} {q : List T → Prop} (h : e sl fun xs => rg1G q xs) : wiRng1 e sl q := h
theorem x_rg1v {q : List T → Prop} (h0 : -(2 ^ 62) ≤ n) (h1 : n < 2 ^ 62) (h : q (upTo 0 n.toNat)) : rg1G q [.val (.int n)] := ⟨n, rfl, h0, h1, h⟩
theorem x_rg2 {e : WA} {q : List T → Prop} (h : e sl fun xs => rg2G q xs) : wiRng2 e sl q := h
theorem x_rg2v {q : List T → Prop} (h0 : -(2 ^ 62) ≤ m) (h1 : m < 2 ^ 62) (h2 : -(2 ^ 62) ≤ n) (h3 : n < 2 ^ 62) (h : q (upTo m (n - m).toNat)) : rg2G q [.val (.int m), .val (.int n)] := ⟨m, n, rfl, ⟨h0, h1, h2, h3⟩, h⟩
theorem x_en {e : WA} {q : List T → Prop} (h : e sl fun xs => enG q xs) : wiEnum e sl q := h
theorem x_enl {q : List T → Prop} (h : q (enT 0 ts)) : enG q [.val (.lst ts)] := ⟨_, _, rfl, .inl rfl, h⟩
theorem x_ent {q : List T → Prop} (h : q (enT 0 ts)) : enG q [.val (.tup ts)] := ⟨_, _, rfl, .inr rfl, h⟩
theorem x_sw (h : a sl fun x => sw1 b sl P x) : wSw a b sl P := h
theorem x_sw1 {p : Str} (h : b sl fun y => sw2 P p y) : sw1 b sl P (.val (.str p)) := ⟨_, rfl, h⟩
theorem x_swv {p q : Str} (h : P (.val (.bl (Txt.startswith p q)))) : sw2 P p (.val (.str q)) := ⟨_, rfl, h⟩
theorem x_call {wf : WF} {dts : List T} {e : WA} (h : e sl fun xs => callG wf dts P xs) : wCall wf dts e sl P := h
theorem x_call0_0 {wf : WF} (e : List.all [] isArg = true) (h : wf [] P) : callG wf [] P [] := ⟨e, h⟩
theorem x_call0_1 {wf : WF} (e : List.all [] isArg = true) (h : wf [.val s] P) : callG wf [s] P [] := ⟨e, h⟩
theorem x_call0_2 {wf : WF} (e : List.all [] isArg = true) (h : wf [.val s, .val t] P) : callG wf [s, t] P [] := ⟨e, h⟩
theorem x_call0_3 {wf : WF} (e : List.all [] isArg = true) (h : wf [.val s, .val t, .val u] P) : callG wf [s, t, u] P [] := ⟨e, h⟩
theorem x_call1_0 {x0 : Sl} {wf : WF} (e : List.all [x0] isArg = true) (h : wf [x0] P) : callG wf [] P [x0] := ⟨e, h⟩
theorem x_call1_1 {x0 : Sl} {wf : WF} (e : List.all [x0] isArg = true) (h : wf [x0, .val s] P) : callG wf [s] P [x0] := ⟨e, h⟩
theorem x_call1_2 {x0 : Sl} {wf : WF} (e : List.all [x0] isArg = true) (h : wf [x0, .val s, .val t] P) : callG wf [s, t] P [x0] := ⟨e, h⟩
theorem x_call1_3 {x0 : Sl} {wf : WF} (e : List.all [x0] isArg = true) (h : wf [x0, .val s, .val t, .val u] P) : callG wf [s, t, u] P [x0] := ⟨e, h⟩
theorem x_call2_0 {x0 x1 : Sl} {wf : WF} (e : List.all [x0, x1] isArg = true) (h : wf [x0, x1] P) : callG wf [] P [x0, x1] := ⟨e, h⟩
theorem x_call2_1 {x0 x1 : Sl} {wf : WF} (e : List.all [x0, x1] isArg = true) (h : wf [x0, x1, .val s] P) : callG wf [s] P [x0, x1] := ⟨e, h⟩
theorem x_call2_2 {x0 x1 : Sl} {wf : WF} (e : List.all [x0, x1] isArg = true) (h : wf [x0, x1, .val s, .val t] P) : callG wf [s, t] P [x0, x1] := ⟨e, h⟩
theorem x_call2_3 {x0 x1 : Sl} {wf : WF} (e : List.all [x0, x1] isArg = true) (h : wf [x0, x1, .val s, .val t, .val u] P) : callG wf [s, t, u] P [x0, x1] := ⟨e, h⟩
theorem x_call3_0 {x0 x1 x2 : Sl} {wf : WF} (e : List.all [x0, x1, x2] isArg = true) (h : wf [x0, x1, x2] P) : callG wf [] P [x0, x1, x2] := ⟨e, h⟩
theorem x_call3_1 {x0 x1 x2 : Sl} {wf : WF} (e : List.all [x0, x1, x2] isArg = true) (h : wf [x0, x1, x2, .val s] P) : callG wf [s] P [x0, x1, x2] := ⟨e, h⟩
theorem x_call3_2 {x0 x1 x2 : Sl} {wf : WF} (e : List.all [x0, x1, x2] isArg = true) (h : wf [x0, x1, x2, .val s, .val t] P) : callG wf [s, t] P [x0, x1, x2] := ⟨e, h⟩
theorem x_call3_3 {x0 x1 x2 : Sl} {wf : WF} (e : List.all [x0, x1, x2] isArg = true) (h : wf [x0, x1, x2, .val s, .val t, .val u] P) : callG wf [s, t, u] P [x0, x1, x2] := ⟨e, h⟩
theorem x_call4_0 {x0 x1 x2 x3 : Sl} {wf : WF} (e : List.all [x0, x1, x2, x3] isArg = true) (h : wf [x0, x1, x2, x3] P) : callG wf [] P [x0, x1, x2, x3] := ⟨e, h⟩
theorem x_call4_1 {x0 x1 x2 x3 : Sl} {wf : WF} (e : List.all [x0, x1, x2, x3] isArg = true) (h : wf [x0, x1, x2, x3, .val s] P) : callG wf [s] P [x0, x1, x2, x3] := ⟨e, h⟩
theorem x_call4_2 {x0 x1 x2 x3 : Sl} {wf : WF} (e : List.all [x0, x1, x2, x3] isArg = true) (h : wf [x0, x1, x2, x3, .val s, .val t] P) : callG wf [s, t] P [x0, x1, x2, x3] := ⟨e, h⟩
theorem x_call4_3 {x0 x1 x2 x3 : Sl} {wf : WF} (e : List.all [x0, x1, x2, x3] isArg = true) (h : wf [x0, x1, x2, x3, .val s, .val t, .val u] P) : callG wf [s, t, u] P [x0, x1, x2, x3] := ⟨e, h⟩
theorem x_call5_0 {x0 x1 x2 x3 x4 : Sl} {wf : WF} (e : List.all [x0, x1, x2, x3, x4] isArg = true) (h : wf [x0, x1, x2, x3, x4] P) : callG wf [] P [x0, x1, x2, x3, x4] := ⟨e, h⟩
theorem x_call5_1 {x0 x1 x2 x3 x4 : Sl} {wf : WF} (e : List.all [x0, x1, x2, x3, x4] isArg = true) (h : wf [x0, x1, x2, x3, x4, .val s] P) : callG wf [s] P [x0, x1, x2, x3, x4] := ⟨e, h⟩
theorem x_call5_2 {x0 x1 x2 x3 x4 : Sl} {wf : WF} (e : List.all [x0, x1, x2, x3, x4] isArg = true) (h : wf [x0, x1, x2, x3, x4, .val s, .val t] P) : callG wf [s, t] P [x0, x1, x2, x3, x4] := ⟨e, h⟩
theorem x_call5_3 {x0 x1 x2 x3 x4 : Sl} {wf : WF} (e : List.all [x0, x1, x2, x3, x4] isArg = true) (h : wf [x0, x1, x2, x3, x4, .val s, .val t, .val u] P) : callG wf [s, t, u] P [x0, x1, x2, x3, x4] := ⟨e, h⟩
theorem x_call6_0 {x0 x1 x2 x3 x4 x5 : Sl} {wf : WF} (e : List.all [x0, x1, x2, x3, x4, x5] isArg = true) (h : wf [x0, x1, x2, x3, x4, x5] P) : callG wf [] P [x0, x1, x2, x3, x4, x5] := ⟨e, h⟩
theorem x_call6_1 {x0 x1 x2 x3 x4 x5 : Sl} {wf : WF} (e : List.all [x0, x1, x2, x3, x4, x5] isArg = true) (h : wf [x0, x1, x2, x3, x4, x5, .val s] P) : callG wf [s] P [x0, x1, x2, x3, x4, x5] := ⟨e, h⟩
theorem x_call6_2 {x0 x1 x2 x3 x4 x5 : Sl} {wf : WF} (e : List.all [x0, x1, x2, x3, x4, x5] isArg = true) (h : wf [x0, x1, x2, x3, x4, x5, .val s, .val t] P) : callG wf [s, t] P [x0, x1, x2, x3, x4, x5] := ⟨e, h⟩
theorem x_call6_3 {x0 x1 x2 x3 x4 x5 : Sl} {wf : WF} (e : List.all [x0, x1, x2, x3, x4, x5] isArg = true) (h : wf [x0, x1, x2, x3, x4, x5, .val s, .val t, .val u] P) : callG wf [s, t, u] P [x0, x1, x2, x3, x4, x5] := ⟨e, h⟩
theorem x_call7_0 {x0 x1 x2 x3 x4 x5 x6 : Sl} {wf : WF} (e : List.all [x0, x1, x2, x3, x4, x5, x6] isArg = true) (h : wf [x0, x1, x2, x3, x4, x5, x6] P) : callG wf [] P [x0, x1, x2, x3, x4, x5, x6] := ⟨e, h⟩
theorem x_call7_1 {x0 x1 x2 x3 x4 x5 x6 : Sl} {wf : WF} (e : List.all [x0, x1, x2, x3, x4, x5, x6] isArg = true) (h : wf [x0, x1, x2, x3, x4, x5, x6, .val s] P) : callG wf [s] P [x0, x1, x2, x3, x4, x5, x6] := ⟨e, h⟩
theorem x_call7_2 {x0 x1 x2 x3 x4 x5 x6 : Sl} {wf : WF} (e : List.all [x0, x1, x2, x3, x4, x5, x6] isArg = true) (h : wf [x0, x1, x2, x3, x4, x5, x6, .val s, .val t] P) : callG wf [s, t] P [x0, x1, x2, x3, x4, x5, x6] := ⟨e, h⟩
theorem x_call7_3 {x0 x1 x2 x3 x4 x5 x6 : Sl} {wf : WF} (e : List.all [x0, x1, x2, x3, x4, x5, x6] isArg = true) (h : wf [x0, x1, x2, x3, x4, x5, x6, .val s, .val t, .val u] P) : callG wf [s, t, u] P [x0, x1, x2, x3, x4, x5, x6] := ⟨e, h⟩
theorem x_met {C : Addr} {m : Str} {wf : WF} {dts : List T} {e : WA} (h : a sl fun x => meG C m wf dts e sl P x) : wMeth C m wf dts a e sl P := h
theorem x_metI {C : Addr} {m : Str} {ns : List Str} {wf : WF} {dts : List T} {e : WA} (hm : m ∉ ns) (h : e sl fun xs => metG wf dts P (.val (.ins C ns ts)) xs) : meG C m wf dts e sl P (.val (.ins C ns ts)) := ⟨ns, ts, rfl, hm, h⟩
theorem x_met0_0 {wf : WF} (e : List.all [] isArg = true) (h : wf [x] P) : metG wf [] P x [] := ⟨e, h⟩
theorem x_met0_1 {wf : WF} (e : List.all [] isArg = true) (h : wf [x, .val s] P) : metG wf [s] P x [] := ⟨e, h⟩
theorem x_met0_2 {wf : WF} (e : List.all [] isArg = true) (h : wf [x, .val s, .val t] P) : metG wf [s, t] P x [] := ⟨e, h⟩
theorem x_met1_0 {x0 : Sl} {wf : WF} (e : List.all [x0] isArg = true) (h : wf [x, x0] P) : metG wf [] P x [x0] := ⟨e, h⟩
theorem x_met1_1 {x0 : Sl} {wf : WF} (e : List.all [x0] isArg = true) (h : wf [x, x0, .val s] P) : metG wf [s] P x [x0] := ⟨e, h⟩
theorem x_met1_2 {x0 : Sl} {wf : WF} (e : List.all [x0] isArg = true) (h : wf [x, x0, .val s, .val t] P) : metG wf [s, t] P x [x0] := ⟨e, h⟩
theorem x_met2_0 {x0 x1 : Sl} {wf : WF} (e : List.all [x0, x1] isArg = true) (h : wf [x, x0, x1] P) : metG wf [] P x [x0, x1] := ⟨e, h⟩
theorem x_met2_1 {x0 x1 : Sl} {wf : WF} (e : List.all [x0, x1] isArg = true) (h : wf [x, x0, x1, .val s] P) : metG wf [s] P x [x0, x1] := ⟨e, h⟩
theorem x_met2_2 {x0 x1 : Sl} {wf : WF} (e : List.all [x0, x1] isArg = true) (h : wf [x, x0, x1, .val s, .val t] P) : metG wf [s, t] P x [x0, x1] := ⟨e, h⟩
theorem x_met3_0 {x0 x1 x2 : Sl} {wf : WF} (e : List.all [x0, x1, x2] isArg = true) (h : wf [x, x0, x1, x2] P) : metG wf [] P x [x0, x1, x2] := ⟨e, h⟩
theorem x_met3_1 {x0 x1 x2 : Sl} {wf : WF} (e : List.all [x0, x1, x2] isArg = true) (h : wf [x, x0, x1, x2, .val s] P) : metG wf [s] P x [x0, x1, x2] := ⟨e, h⟩
theorem x_met3_2 {x0 x1 x2 : Sl} {wf : WF} (e : List.all [x0, x1, x2] isArg = true) (h : wf [x, x0, x1, x2, .val s, .val t] P) : metG wf [s, t] P x [x0, x1, x2] := ⟨e, h⟩
theorem x_met4_0 {x0 x1 x2 x3 : Sl} {wf : WF} (e : List.all [x0, x1, x2, x3] isArg = true) (h : wf [x, x0, x1, x2, x3] P) : metG wf [] P x [x0, x1, x2, x3] := ⟨e, h⟩
theorem x_met4_1 {x0 x1 x2 x3 : Sl} {wf : WF} (e : List.all [x0, x1, x2, x3] isArg = true) (h : wf [x, x0, x1, x2, x3, .val s] P) : metG wf [s] P x [x0, x1, x2, x3] := ⟨e, h⟩
theorem x_met4_2 {x0 x1 x2 x3 : Sl} {wf : WF} (e : List.all [x0, x1, x2, x3] isArg = true) (h : wf [x, x0, x1, x2, x3, .val s, .val t] P) : metG wf [s, t] P x [x0, x1, x2, x3] := ⟨e, h⟩
theorem x_met5_0 {x0 x1 x2 x3 x4 : Sl} {wf : WF} (e : List.all [x0, x1, x2, x3, x4] isArg = true) (h : wf [x, x0, x1, x2, x3, x4] P) : metG wf [] P x [x0, x1, x2, x3, x4] := ⟨e, h⟩
theorem x_met5_1 {x0 x1 x2 x3 x4 : Sl} {wf : WF} (e : List.all [x0, x1, x2, x3, x4] isArg = true) (h : wf [x, x0, x1, x2, x3, x4, .val s] P) : metG wf [s] P x [x0, x1, x2, x3, x4] := ⟨e, h⟩
theorem x_met5_2 {x0 x1 x2 x3 x4 : Sl} {wf : WF} (e : List.all [x0, x1, x2, x3, x4] isArg = true) (h : wf [x, x0, x1, x2, x3, x4, .val s, .val t] P) : metG wf [s, t] P x [x0, x1, x2, x3, x4] := ⟨e, h⟩
theorem x_met6_0 {x0 x1 x2 x3 x4 x5 : Sl} {wf : WF} (e : List.all [x0, x1, x2, x3, x4, x5] isArg = true) (h : wf [x, x0, x1, x2, x3, x4, x5] P) : metG wf [] P x [x0, x1, x2, x3, x4, x5] := ⟨e, h⟩
theorem x_met6_1 {x0 x1 x2 x3 x4 x5 : Sl} {wf : WF} (e : List.all [x0, x1, x2, x3, x4, x5] isArg = true) (h : wf [x, x0, x1, x2, x3, x4, x5, .val s] P) : metG wf [s] P x [x0, x1, x2, x3, x4, x5] := ⟨e, h⟩
theorem x_met6_2 {x0 x1 x2 x3 x4 x5 : Sl} {wf : WF} (e : List.all [x0, x1, x2, x3, x4, x5] isArg = true) (h : wf [x, x0, x1, x2, x3, x4, x5, .val s, .val t] P) : metG wf [s, t] P x [x0, x1, x2, x3, x4, x5] := ⟨e, h⟩
theorem x_met7_0 {x0 x1 x2 x3 x4 x5 x6 : Sl} {wf : WF} (e : List.all [x0, x1, x2, x3, x4, x5, x6] isArg = true) (h : wf [x, x0, x1, x2, x3, x4, x5, x6] P) : metG wf [] P x [x0, x1, x2, x3, x4, x5, x6] := ⟨e, h⟩
theorem x_met7_1 {x0 x1 x2 x3 x4 x5 x6 : Sl} {wf : WF} (e : List.all [x0, x1, x2, x3, x4, x5, x6] isArg = true) (h : wf [x, x0, x1, x2, x3, x4, x5, x6, .val s] P) : metG wf [s] P x [x0, x1, x2, x3, x4, x5, x6] := ⟨e, h⟩
theorem x_met7_2 {x0 x1 x2 x3 x4 x5 x6 : Sl} {wf : WF} (e : List.all [x0, x1, x2, x3, x4, x5, x6] isArg = true) (h : wf [x, x0, x1, x2, x3, x4, x5, x6, .val s, .val t] P) : metG wf [s, t] P x [x0, x1, x2, x3, x4, x5, x6] := ⟨e, h⟩
theorem x_mk {C : Addr} {wf : WM} {dts : List T} {e : WA} (h : e sl fun xs => makG C wf dts P xs) : wMakeP C dts wf e sl P := h
theorem x_mk0_0 {C : Addr} {wf : WM} (e : List.all [] isArg = true) (h : wf [] fun ns ts => P (.val (.ins C ns ts))) : makG C wf [] P [] := ⟨e, h⟩
theorem x_mk0_1 {C : Addr} {wf : WM} (e : List.all [] isArg = true) (h : wf [.val s] fun ns ts => P (.val (.ins C ns ts))) : makG C wf [s] P [] := ⟨e, h⟩
theorem x_mk0_2 {C : Addr} {wf : WM} (e : List.all [] isArg = true) (h : wf [.val s, .val t] fun ns ts => P (.val (.ins C ns ts))) : makG C wf [s, t] P [] := ⟨e, h⟩
theorem x_mk0_3 {C : Addr} {wf : WM} (e : List.all [] isArg = true) (h : wf [.val s, .val t, .val u] fun ns ts => P (.val (.ins C ns ts))) : makG C wf [s, t, u] P [] := ⟨e, h⟩
theorem x_mk1_0 {x0 : Sl} {C : Addr} {wf : WM} (e : List.all [x0] isArg = true) (h : wf [x0] fun ns ts => P (.val (.ins C ns ts))) : makG C wf [] P [x0] := ⟨e, h⟩
theorem x_mk1_1 {x0 : Sl} {C : Addr} {wf : WM} (e : List.all [x0] isArg = true) (h : wf [x0, .val s] fun ns ts => P (.val (.ins C ns ts))) : makG C wf [s] P [x0] := ⟨e, h⟩
theorem x_mk1_2 {x0 : Sl} {C : Addr} {wf : WM} (e : List.all [x0] isArg = true) (h : wf [x0, .val s, .val t] fun ns ts => P (.val (.ins C ns ts))) : makG C wf [s, t] P [x0] := ⟨e, h⟩
theorem x_mk1_3 {x0 : Sl} {C : Addr} {wf : WM} (e : List.all [x0] isArg = true) (h : wf [x0, .val s, .val t, .val u] fun ns ts => P (.val (.ins C ns ts))) : makG C wf [s, t, u] P [x0] := ⟨e, h⟩
theorem x_mk2_0 {x0 x1 : Sl} {C : Addr} {wf : WM} (e : List.all [x0, x1] isArg = true) (h : wf [x0, x1] fun ns ts => P (.val (.ins C ns ts))) : makG C wf [] P [x0, x1] := ⟨e, h⟩
theorem x_mk2_1 {x0 x1 : Sl} {C : Addr} {wf : WM} (e : List.all [x0, x1] isArg = true) (h : wf [x0, x1, .val s] fun ns ts => P (.val (.ins C ns ts))) : makG C wf [s] P [x0, x1] := ⟨e, h⟩
theorem x_mk2_2 {x0 x1 : Sl} {C : Addr} {wf : WM} (e : List.all [x0, x1] isArg = true) (h : wf [x0, x1, .val s, .val t] fun ns ts => P (.val (.ins C ns ts))) : makG C wf [s, t] P [x0, x1] := ⟨e, h⟩
theorem x_mk2_3 {x0 x1 : Sl} {C : Addr} {wf : WM} (e : List.all [x0, x1] isArg = true) (h : wf [x0, x1, .val s, .val t, .val u] fun ns ts => P (.val (.ins C ns ts))) : makG C wf [s, t, u] P [x0, x1] := ⟨e, h⟩
theorem x_mk3_0 {x0 x1 x2 : Sl} {C : Addr} {wf : WM} (e : List.all [x0, x1, x2] isArg = true) (h : wf [x0, x1, x2] fun ns ts => P (.val (.ins C ns ts))) : makG C wf [] P [x0, x1, x2] := ⟨e, h⟩
theorem x_mk3_1 {x0 x1 x2 : Sl} {C : Addr} {wf : WM} (e : List.all [x0, x1, x2] isArg = true) (h : wf [x0, x1, x2, .val s] fun ns ts => P (.val (.ins C ns ts))) : makG C wf [s] P [x0, x1, x2] := ⟨e, h⟩
theorem x_mk3_2 {x0 x1 x2 : Sl} {C : Addr} {wf : WM} (e : List.all [x0, x1, x2] isArg = true) (h : wf [x0, x1, x2, .val s, .val t] fun ns ts => P (.val (.ins C ns ts))) : makG C wf [s, t] P [x0, x1, x2] := ⟨e, h⟩
theorem x_mk3_3 {x0 x1 x2 : Sl} {C : Addr} {wf : WM} (e : List.all [x0, x1, x2] isArg = true) (h : wf [x0, x1, x2, .val s, .val t, .val u] fun ns ts => P (.val (.ins C ns ts))) : makG C wf [s, t, u] P [x0, x1, x2] := ⟨e, h⟩
theorem x_mk4_0 {x0 x1 x2 x3 : Sl} {C : Addr} {wf : WM} (e : List.all [x0, x1, x2, x3] isArg = true) (h : wf [x0, x1, x2, x3] fun ns ts => P (.val (.ins C ns ts))) : makG C wf [] P [x0, x1, x2, x3] := ⟨e, h⟩
theorem x_mk4_1 {x0 x1 x2 x3 : Sl} {C : Addr} {wf : WM} (e : List.all [x0, x1, x2, x3] isArg = true) (h : wf [x0, x1, x2, x3, .val s] fun ns ts => P (.val (.ins C ns ts))) : makG C wf [s] P [x0, x1, x2, x3] := ⟨e, h⟩
theorem x_mk4_2 {x0 x1 x2 x3 : Sl} {C : Addr} {wf : WM} (e : List.all [x0, x1, x2, x3] isArg = true) (h : wf [x0, x1, x2, x3, .val s, .val t] fun ns ts => P (.val (.ins C ns ts))) : makG C wf [s, t] P [x0, x1, x2, x3] := ⟨e, h⟩
theorem x_mk4_3 {x0 x1 x2 x3 : Sl} {C : Addr} {wf : WM} (e : List.all [x0, x1, x2, x3] isArg = true) (h : wf [x0, x1, x2, x3, .val s, .val t, .val u] fun ns ts => P (.val (.ins C ns ts))) : makG C wf [s, t, u] P [x0, x1, x2, x3] := ⟨e, h⟩
theorem x_mk5_0 {x0 x1 x2 x3 x4 : Sl} {C : Addr} {wf : WM} (e : List.all [x0, x1, x2, x3, x4] isArg = true) (h : wf [x0, x1, x2, x3, x4] fun ns ts => P (.val (.ins C ns ts))) : makG C wf [] P [x0, x1, x2, x3, x4] := ⟨e, h⟩
theorem x_mk5_1 {x0 x1 x2 x3 x4 : Sl} {C : Addr} {wf : WM} (e : List.all [x0, x1, x2, x3, x4] isArg = true) (h : wf [x0, x1, x2, x3, x4, .val s] fun ns ts => P (.val (.ins C ns ts))) : makG C wf [s] P [x0, x1, x2, x3, x4] := ⟨e, h⟩
theorem x_mk5_2 {x0 x1 x2 x3 x4 : Sl} {C : Addr} {wf : WM} (e : List.all [x0, x1, x2, x3, x4] isArg = true) (h : wf [x0, x1, x2, x3, x4, .val s, .val t] fun ns ts => P (.val (.ins C ns ts))) : makG C wf [s, t] P [x0, x1, x2, x3, x4] := ⟨e, h⟩
theorem x_mk5_3 {x0 x1 x2 x3 x4 : Sl} {C : Addr} {wf : WM} (e : List.all [x0, x1, x2, x3, x4] isArg = true) (h : wf [x0, x1, x2, x3, x4, .val s, .val t, .val u] fun ns ts => P (.val (.ins C ns ts))) : makG C wf [s, t, u] P [x0, x1, x2, x3, x4] := ⟨e, h⟩
theorem x_mk6_0 {x0 x1 x2 x3 x4 x5 : Sl} {C : Addr} {wf : WM} (e : List.all [x0, x1, x2, x3, x4, x5] isArg = true) (h : wf [x0, x1, x2, x3, x4, x5] fun ns ts => P (.val (.ins C ns ts))) : makG C wf [] P [x0, x1, x2, x3, x4, x5] := ⟨e, h⟩
theorem x_mk6_1 {x0 x1 x2 x3 x4 x5 : Sl} {C : Addr} {wf : WM} (e : List.all [x0, x1, x2, x3, x4, x5] isArg = true) (h : wf [x0, x1, x2, x3, x4, x5, .val s] fun ns ts => P (.val (.ins C ns ts))) : makG C wf [s] P [x0, x1, x2, x3, x4, x5] := ⟨e, h⟩
theorem x_mk6_2 {x0 x1 x2 x3 x4 x5 : Sl} {C : Addr} {wf : WM} (e : List.all [x0, x1, x2, x3, x4, x5] isArg = true) (h : wf [x0, x1, x2, x3, x4, x5, .val s, .val t] fun ns ts => P (.val (.ins C ns ts))) : makG C wf [s, t] P [x0, x1, x2, x3, x4, x5] := ⟨e, h⟩
theorem x_mk6_3 {x0 x1 x2 x3 x4 x5 : Sl} {C : Addr} {wf : WM} (e : List.all [x0, x1, x2, x3, x4, x5] isArg = true) (h : wf [x0, x1, x2, x3, x4, x5, .val s, .val t, .val u] fun ns ts => P (.val (.ins C ns ts))) : makG C wf [s, t, u] P [x0, x1, x2, x3, x4, x5] := ⟨e, h⟩
theorem x_mk7_0 {x0 x1 x2 x3 x4 x5 x6 : Sl} {C : Addr} {wf : WM} (e : List.all [x0, x1, x2, x3, x4, x5, x6] isArg = true) (h : wf [x0, x1, x2, x3, x4, x5, x6] fun ns ts => P (.val (.ins C ns ts))) : makG C wf [] P [x0, x1, x2, x3, x4, x5, x6] := ⟨e, h⟩
theorem x_mk7_1 {x0 x1 x2 x3 x4 x5 x6 : Sl} {C : Addr} {wf : WM} (e : List.all [x0, x1, x2, x3, x4, x5, x6] isArg = true) (h : wf [x0, x1, x2, x3, x4, x5, x6, .val s] fun ns ts => P (.val (.ins C ns ts))) : makG C wf [s] P [x0, x1, x2, x3, x4, x5, x6] := ⟨e, h⟩
theorem x_mk7_2 {x0 x1 x2 x3 x4 x5 x6 : Sl} {C : Addr} {wf : WM} (e : List.all [x0, x1, x2, x3, x4, x5, x6] isArg = true) (h : wf [x0, x1, x2, x3, x4, x5, x6, .val s, .val t] fun ns ts => P (.val (.ins C ns ts))) : makG C wf [s, t] P [x0, x1, x2, x3, x4, x5, x6] := ⟨e, h⟩
theorem x_mk7_3 {x0 x1 x2 x3 x4 x5 x6 : Sl} {C : Addr} {wf : WM} (e : List.all [x0, x1, x2, x3, x4, x5, x6] isArg = true) (h : wf [x0, x1, x2, x3, x4, x5, x6, .val s, .val t, .val u] fun ns ts => P (.val (.ins C ns ts))) : makG C wf [s, t, u] P [x0, x1, x2, x3, x4, x5, x6] := ⟨e, h⟩
theorem x_fld {C : Addr} {g : Str} (h : a sl fun x => fldG C g P x) : wFld C g a sl P := h
theorem x_fldI {C : Addr} {g : Str} {ns : List Str} (e : (ns.zip ts).lookup g = some t) (h : P (.val t)) : fldG C g P (.val (.ins C ns ts)) := ⟨ns, ts, t, rfl, e, h⟩
theorem x_isI {C : Addr} (h : a sl fun x => isIG C P x) : wIsI C a sl P := h
theorem x_isIt {C : Addr} {ns : List Str} (h : P (.val (.bl true))) : isIG C P (.val (.ins C ns ts)) := ⟨_, _, rfl, if_pos rfl, h⟩
theorem x_isI_n {C : Addr} (h : P (.val (.bl false))) : isIG C P (.val .non) := ⟨_, _, rfl, rfl, h⟩
theorem x_isI_b {C : Addr} {v : Bool} (h : P (.val (.bl false))) : isIG C P (.val (.bl v)) := ⟨_, _, rfl, rfl, h⟩
theorem x_isI_i {C : Addr} (h : P (.val (.bl false))) : isIG C P (.val (.int m)) := ⟨_, _, rfl, rfl, h⟩
theorem x_isI_s {C : Addr} {p : Str} (h : P (.val (.bl false))) : isIG C P (.val (.str p)) := ⟨_, _, rfl, rfl, h⟩
theorem x_isI_t {C : Addr} (h : P (.val (.bl false))) : isIG C P (.val (.tup ts)) := ⟨_, _, rfl, rfl, h⟩
theorem x_isI_l {C : Addr} (h : P (.val (.bl false))) : isIG C P (.val (.lst ts)) := ⟨_, _, rfl, rfl, h⟩
theorem x_isI_d {C : Addr} {ks : List Key} (h : P (.val (.bl false))) : isIG C P (.val (.dct ks ts)) := ⟨_, _, rfl, rfl, h⟩
theorem x_bl {v : Bool} (h : P (.val (.bl v))) : blG P (.val (.bl v)) := ⟨v, rfl, h⟩
theorem x_bln {v : Bool} (h : P (.val (.bl (!v)))) : blnG P (.val (.bl v)) := ⟨v, rfl, h⟩
theorem x_eqo {C : Addr} {wf : WF} (h : a sl fun x => b sl fun y => eqG C wf P x y) : wOwnEq C wf a b sl P := h
theorem x_eqoI {C : Addr} {wf : WF} {ns : List Str} (e : tyOk C u) (h : wf [.val (.ins C ns ts), .val u] fun z => blG P z) : eqG C wf P (.val (.ins C ns ts)) (.val u) := ⟨ns, ts, u, rfl, rfl, e, h⟩
theorem x_neo {C : Addr} {wf : WF} (h : a sl fun x => b sl fun y => neG C wf P x y) : wOwnNe C wf a b sl P := h
theorem x_neoI {C : Addr} {wf : WF} {ns : List Str} (e : tyOk C u) (h : wf [.val (.ins C ns ts), .val u] fun z => blnG P z) : neG C wf P (.val (.ins C ns ts)) (.val u) := ⟨ns, ts, u, rfl, rfl, e, h⟩
variable {fn : List Str → List T → Prop} {ns : List Str}
theorem x_nseq {p q : WN} (h : p (fun ns ts => q fn sl ns ts) sl ns ts) : wnSeq p q fn sl ns ts := h
theorem x_nnext (h : fn ns ts) : wnNext fn sl ns ts := h
theorem x_ndrop (h : a sl fun _ => fn ns ts) : wnDrop a fn sl ns ts := h
theorem x_nif {v : WT} {p q : WN} (h : v sl fun b => ifG (p fn sl ns ts) (q fn sl ns ts) b) : wnIf v p q fn sl ns ts := h
def nsG (g : Str) (fn : List Str → List T → Prop) (ns : List Str) (ts : List T) (x : Sl) : Prop := ∃ t, x = .val t ∧ g ∉ ns ∧ ns.length < 500 ∧ fn (ns ++ [g]) (ts ++ [t])
theorem x_nset {g : Str} (h : a sl fun x => nsG g fn ns ts x) : wnSet g a fn sl ns ts := h
theorem x_nsetv {g : Str} {ns2 : List Str} {ts2 : List T} (h1 : g ∉ ns) (h2 : ns.length < 500) (e1 : ns ++ [g] = ns2) (e2 : ts ++ [t] = ts2) (h : fn ns2 ts2) : nsG g fn ns ts (.val t) := ⟨t, rfl, h1, h2, by rw [e1, e2]; exact h⟩
theorem x_stn {r : List Sl} (e : sl.set i x = r) (h : f r) : stG f i x sl := by unfold stG; rw [e]; exact h
def srtG (P : Sl → Prop) (x : Sl) : Prop := ∃ ns : List Int, x.tree = some (.lst (ns.map T.int)) ∧ ns.length < 64 ∧ ∀ ms : List Int, ms.Pairwise (· < ·) → (∀ k : Int, k ∈ ms ↔ k ∈ ns) → P (.val (.lst (ms.map T.int)))
theorem x_srt (h : a sl fun x => srtG P x) : wSrt a sl P := h
def maxG (P : Sl → Prop) (xs : List Sl) : Prop := ∃ (x : Sl) (ns : List Int), xs = [x] ∧ oneOf x ns ∧ 0 < ns.length ∧ ∀ m, m ∈ ns → (∀ y, y ∈ ns → y ≤ m) → P (.val (.int m))
def minG (P : Sl → Prop) (xs : List Sl) : Prop := ∃ (x : Sl) (ns : List Int), xs = [x] ∧ oneOf x ns ∧ 0 < ns.length ∧ ∀ m, m ∈ ns → (∀ y, y ∈ ns → m ≤ y) → P (.val (.int m))
theorem x_maxA {e : WA} (h : e sl fun xs => maxG P xs) : wMaxA e sl P := h
theorem x_minA {e : WA} (h : e sl fun xs => minG P xs) : wMinA e sl P := h
def augMG (a : Int) (i : Nat) (f : List Sl → Prop) (sl : List Sl) (x : Sl) : Prop := ∃ b, x = .val (.int b) ∧ wide a b = true ∧ f (sl.set i (.val (.int (a * b))))
theorem x_augM (e : nth sl i = .val (.int m)) (h : a sl fun x => augMG m i f sl x) : wAugM i a ⟨f, rt, bk, ct⟩ sl := ⟨m, e, h⟩
theorem x_augMv (q : wide m n = true) (h : stG f i (.val (.int (m * n))) sl) : augMG m i f sl (.val (.int n)) := ⟨n, rfl, q, h⟩
def lrG1 (P : List T → Prop) (x : Sl) : Prop := ∃ n : Int, x = .val (.int n) ∧ 0 ≤ n ∧ n ≤ 100000 ∧ P (upTo 0 n.toNat)
theorem x_lr1 {q : List T → Prop} (h : a sl fun x => lrG1 q x) : wLstRg1 a sl q := h
theorem x_lr1v {q : List T → Prop} (h0 : 0 ≤ n) (h1 : n ≤ 100000) (h : q (upTo 0 n.toNat)) : lrG1 q (.val (.int n)) := ⟨n, rfl, h0, h1, h⟩
def lrG2 (P : List T → Prop) (x y : Sl) : Prop := ∃ m n : Int, x = .val (.int m) ∧ y = .val (.int n) ∧ 0 ≤ m ∧ m ≤ 100000 ∧ 0 ≤ n ∧ n ≤ 100000 ∧ P (upTo m (n - m).toNat)
theorem x_lr2 {q : List T → Prop} (h : a sl fun x => b sl fun y => lrG2 q x y) : wLstRg2 a b sl q := h
theorem x_lr2v {q : List T → Prop} (h0 : 0 ≤ m) (h1 : m ≤ 100000) (h2 : 0 ≤ n) (h3 : n ≤ 100000) (h : q (upTo m (n - m).toNat)) : lrG2 q (.val (.int m)) (.val (.int n)) := ⟨m, n, rfl, rfl, h0, h1, h2, h3, h⟩
def leG (C : Addr) (wf : WF) (P : Sl → Prop) (xs : List Sl) : Prop := ∃ ns ts, xs = [.val (.ins C ns ts)] ∧ wf xs fun z => ∃ n : Nat, z = .val (.int n) ∧ n < 2 ^ 63 ∧ P z
def nnG (P : Sl → Prop) (z : Sl) : Prop := ∃ n : Nat, z = .val (.int n) ∧ n < 2 ^ 63 ∧ P z
theorem x_lenI {C : Addr} {wf : WF} {e : WA} (h : e sl fun xs => leG C wf P xs) : wLenI C wf e sl P := h
theorem x_lenIv {C : Addr} {ns : List Str} {wf : WF} (h : wf [.val (.ins C ns ts)] fun z => nnG P z) : leG C wf P [.val (.ins C ns ts)] := ⟨ns, ts, rfl, h⟩
theorem x_nn {n : Nat} (hn : n < 2 ^ 63) (h : P (.val (.int (n : Nat)))) : nnG P (.val (.int (n : Nat))) := ⟨n, rfl, hn, h⟩
def stIG (C : Addr) (wf : WF) (P : Sl → Prop) (xs : List Sl) : Prop := ∃ ns ts, xs = [.val (.ins C ns ts)] ∧ wf xs fun z => ∃ r, z = .val (.str r) ∧ P z
def srG (P : Sl → Prop) (z : Sl) : Prop := ∃ r, z = .val (.str r) ∧ P z
theorem x_strI {C : Addr} {wf : WF} {e : WA} (h : e sl fun xs => stIG C wf P xs) : wStrI C wf e sl P := h
theorem x_strIv {C : Addr} {ns : List Str} {wf : WF} (h : wf [.val (.ins C ns ts)] fun z => srG P z) : stIG C wf P [.val (.ins C ns ts)] := ⟨ns, ts, rfl, h⟩
theorem x_sr {r : Str} (h : P (.val (.str r))) : srG P (.val (.str r)) := ⟨r, rfl, h⟩
def kdG (kvs : List (Str × T)) (P : Sl → Prop) (y : Sl) : Prop := ∃ z t, y = .val (.str z) ∧ kvs.lookup z = some t ∧ P (.val t)
theorem x_kd {kvs : List (Str × T)} (h : b sl fun y => kdG kvs P y) : wKD kvs b sl P := h
theorem x_kdv {kvs : List (Str × T)} {p : Str} (e : kvs.lookup p = some t) (h : P (.val t)) : kdG kvs P (.val (.str p)) := ⟨p, t, rfl, e, h⟩
end
/-- a loop by what holds at its head -/
theorem for_inv {g : Tg} {b : WS} {k : Ks} (I : List T → List Sl → Prop) (hend : ∀ sl, I [] sl → k.nx sl) (hstep : ∀ (t : T) (r : List T) (sl : List Sl) (N : List Sl → Prop), I (t :: r) sl → (∀ s, I r s → N s) → ∃ sl', g.st t sl = some sl' ∧ b ⟨N, k.rt, k.nx, N⟩ sl') : ∀ ts sl, I ts sl → wForL g b k ts sl
  | [], sl, h => hend sl h
  | t :: r, sl, h => by
    obtain ⟨sl', e, q⟩ := hstep t r sl (fun s => wForL g b k r s) h fun s hs => for_inv I hend hstep r s hs
    exact ⟨sl', e, q⟩
end Tr


set_option Elab.async false
set_option linter.all false
set_option maxRecDepth 100000
set_option maxHeartbeats 0
namespace Tr
open PySem PySem.Spec PyProof.Rows L2
variable [Tabl]
/-! ### 21. further rules -/
section
variable {sl : List Sl} {P : Sl → Prop} {Q : Bool → Prop} {f bk ct : List Sl → Prop} {rt : Sl → Prop} {a b c : WE} {s t u z : T} {i j l : Nat} {m n : Int} {x y : Sl} {ts us : List T} {A B : Prop}
def augDG (a : Int) (i : Nat) (f : List Sl → Prop) (sl : List Sl) (x : Sl) : Prop := ∃ b, x = .val (.int b) ∧ divOk b = true ∧ f (sl.set i (.val (.int (a / b))))
theorem x_augD (e : nth sl i = .val (.int m)) (h : a sl fun x => augDG m i f sl x) : wAugD i a ⟨f, rt, bk, ct⟩ sl := ⟨m, e, h⟩
theorem x_augDv (q : divOk n = true) (h : stG f i (.val (.int (m / n))) sl) : augDG m i f sl (.val (.int n)) := ⟨n, rfl, q, h⟩
def dfG (g : Int → Int → Int) (P : Sl → Prop) (xs ys : List Sl) : Prop := ∃ (x : Sl) (ns : List Int) (i : Int), xs = [x] ∧ x.tree = some (.lst (ns.map T.int)) ∧ ys = [.val (.int i)] ∧ P (.val (.int (match ns with | [] => i | n :: r => r.foldl g n)))
def dfH (g : Int → Int → Int) (w : WA) (sl : List Sl) (P : Sl → Prop) (xs : List Sl) : Prop := w sl fun ys => dfG g P xs ys
theorem x_df {g : Int → Int → Int} {v w : WA} (h : v sl fun xs => dfH g w sl P xs) : wDf g v w sl P := h
theorem x_dfH {g : Int → Int → Int} {w : WA} {xs : List Sl} (h : w sl fun ys => dfG g P xs ys) : dfH g w sl P xs := h
def dfV (g : Int → Int → Int) (i : Int) : List Int → Int
  | [] => i
  | n :: r => r.foldl g n
def sortG (P : List T → Prop) (xs : List Sl) : Prop := ∃ x ts, xs = [x] ∧ x.tree = some (.lst ts) ∧ Srt ts ∧ P (sortT ts)
theorem x_sorted {v : WA} {q : List T → Prop} (h : v sl fun xs => sortG q xs) : wSorted v sl q := h
theorem x_max3 {q : Int} (h : P (.val (.int (max (max m n) q)))) : cbG max3T P [.val (.int m), .val (.int n), .val (.int q)] := ⟨_, _, rfl, rfl, h⟩
theorem x_min3 {q : Int} (h : P (.val (.int (min (min m n) q)))) : cbG min3T P [.val (.int m), .val (.int n), .val (.int q)] := ⟨_, _, rfl, rfl, h⟩
def lenSetG (P : Sl → Prop) (x : Sl) : Prop := ∃ ts ks, x.tree = some (.lst ts) ∧ keysT ts = some ks ∧ ks.length ≤ 4000 ∧ P (.val (.int ((SK.firsts ks).length : Nat)))
theorem x_notT (h : a sl fun x => truG (fun b => P (.val (.bl (!b)))) x) : wNotT a sl P := h
theorem x_lenSet (h : a sl fun x => lenSetG P x) : wLenSet a sl P := h
theorem x_neE (h : P (.val (.bl (!ts.isEmpty)))) : op2 neE P (.lst ts) (.lst []) := ⟨_, rfl, h⟩
theorem x_eqE (h : P (.val (.bl ts.isEmpty))) : op2 eqE P (.lst ts) (.lst []) := ⟨_, rfl, h⟩
theorem x_reprB {v : Bool} (h : P (.val (.str (if v = true then "True" else "False")))) : cbG reprT P [.val (.bl v)] := ⟨_, _, rfl, rfl, h⟩
def parOOv (i j : Nat) (f : List Sl → Prop) (sl : List Sl) (ts us : List T) : Prop := ∀ l m, f ((sl.set i (.own l ts)).set j (.own m us))
def parOO1 (v : WL) (i j : Nat) (f : List Sl → Prop) (sl : List Sl) (ts : List T) : Prop := v sl fun us => parOOv i j f sl ts us
theorem x_parOO {w v : WL} (h : w sl fun ts => parOO1 v i j f sl ts) : wParOO i j w v ⟨f, rt, bk, ct⟩ sl := h
theorem x_parOO1 {v : WL} (h : v sl fun us => parOOv i j f sl ts us) : parOO1 v i j f sl ts := h
theorem x_parOOv (h : ∀ l m, stG (fun r => stG f j (.own m us) r) i (.own l ts) sl) : parOOv i j f sl ts us := h
def parOVv (i j : Nat) (f : List Sl → Prop) (sl : List Sl) (ts : List T) (x : Sl) : Prop := storable x = true ∧ ∀ l, f ((sl.set i (.own l ts)).set j x)
def parOV1 (a : WE) (i j : Nat) (f : List Sl → Prop) (sl : List Sl) (ts : List T) : Prop := a sl fun x => parOVv i j f sl ts x
theorem x_parOV {w : WL} (h : w sl fun ts => parOV1 a i j f sl ts) : wParOV i j w a ⟨f, rt, bk, ct⟩ sl := h
theorem x_parOV1 (h : a sl fun x => parOVv i j f sl ts x) : parOV1 a i j f sl ts := h
theorem x_parOVv (h : ∀ l, stG (fun r => stG f j (.val t) r) i (.own l ts) sl) : parOVv i j f sl ts (.val t) := ⟨rfl, h⟩
def parVOv (i j : Nat) (f : List Sl → Prop) (sl : List Sl) (x : Sl) (ts : List T) : Prop := ∀ l, f ((sl.set i x).set j (.own l ts))
def parVO1 (w : WL) (i j : Nat) (f : List Sl → Prop) (sl : List Sl) (x : Sl) : Prop := storable x = true ∧ w sl fun ts => parVOv i j f sl x ts
theorem x_parVO {w : WL} (h : a sl fun x => parVO1 w i j f sl x) : wParVO i j a w ⟨f, rt, bk, ct⟩ sl := h
theorem x_parVO1 {w : WL} (h : w sl fun ts => parVOv i j f sl (.val t) ts) : parVO1 w i j f sl (.val t) := ⟨rfl, h⟩
theorem x_parVOv (h : ∀ l, stG (fun r => stG f j (.own l ts) r) i x sl) : parVOv i j f sl x ts := h
/-! places and pieces of lists -/
/-! ### 22. comprehensions, by functions and by relations -/
end
end Tr


set_option Elab.async false
set_option linter.all false
set_option maxRecDepth 100000
set_option maxHeartbeats 0
namespace Tr
open PySem PySem.Spec PyProof.Rows L2
variable [Tabl]
/-! ### 23. steps of what may raise -/
section
variable {sl : List Sl} {P : Sl → Prop} {f bk ct : List Sl → Prop} {rt : Sl → Prop} {R : RXs} {r : RX} {a : WA} {o : WE} {A B : Prop} {C : Addr} {dts : List T}
theorem xx_seq {p q : WSX} (h : p R ⟨fun s => q R ⟨f, rt, bk, ct⟩ s, rt, bk, ct⟩ sl) : xSeq p q R ⟨f, rt, bk, ct⟩ sl := h
theorem xx_N (h : f sl) : xN R ⟨f, rt, bk, ct⟩ sl := h
theorem xx_L {w : WS} (h : w ⟨f, rt, bk, ct⟩ sl) : xL w R ⟨f, rt, bk, ct⟩ sl := h
theorem xx_E {w : WE} (h : w sl P) : xE w r sl P := h
theorem xx_if {t : WT} {p q : WSX} (h : t sl fun v => ifG (p R ⟨f, rt, bk, ct⟩ sl) (q R ⟨f, rt, bk, ct⟩ sl) v) : xIf t p q R ⟨f, rt, bk, ct⟩ sl := h
def retX (rt : Sl → Prop) (x : Sl) : Prop := rt x
theorem xx_ret {e : WEX} (h : e (fun c o => R c o sl) sl rt) : xRet e R ⟨f, rt, bk, ct⟩ sl := h
theorem xx_drop {e : WEX} (h : e (fun c o => R c o sl) sl fun _ => f sl) : xDrop e R ⟨f, rt, bk, ct⟩ sl := h
theorem xx_raise (h : R (.ref C) none sl) : xRaise C R ⟨f, rt, bk, ct⟩ sl := h
def xcG (wf : WFX) (dts : List T) (r : RX) (P : Sl → Prop) (xs : List Sl) : Prop := xs.all isArg = true ∧ wf r (xs ++ dts.map Sl.val) P
theorem xx_call {wf : WFX} (h : a sl fun xs => xcG wf dts r P xs) : xCall wf dts a r sl P := h
theorem xx_cv {wf : WFX} {xs : List Sl} (e : xs.all isArg = true) (h : wf r (xs ++ dts.map Sl.val) P) : xcG wf dts r P xs := ⟨e, h⟩
def xmG (wf : WMX) (dts : List T) (C : Addr) (r : RX) (P : Sl → Prop) (xs : List Sl) : Prop := xs.all isArg = true ∧ wf r (xs ++ dts.map Sl.val) fun ns ts => P (.val (.ins C ns ts))
theorem xx_make {wf : WMX} (h : a sl fun xs => xmG wf dts C r P xs) : xMake C dts wf a r sl P := h
theorem xx_mv {wf : WMX} {xs : List Sl} (e : xs.all isArg = true) (h : wf r (xs ++ dts.map Sl.val) fun ns ts => P (.val (.ins C ns ts))) : xmG wf dts C r P xs := ⟨e, h⟩
def xtG (m : Str) (wf : WFX) (dts : List T) (C : Addr) (a : WA) (sl : List Sl) (r : RX) (P : Sl → Prop) (x : Sl) : Prop := ∃ ns ts, x = .val (.ins C ns ts) ∧ m ∉ ns ∧ a sl fun xs => xs.all isArg = true ∧ wf r (x :: (xs ++ dts.map Sl.val)) P
def xuG (wf : WFX) (dts : List T) (r : RX) (P : Sl → Prop) (x : Sl) (xs : List Sl) : Prop := xs.all isArg = true ∧ wf r (x :: (xs ++ dts.map Sl.val)) P
theorem xx_meth {m : Str} {wf : WFX} (h : o sl fun x => xtG m wf dts C a sl r P x) : xMeth C m wf dts o a r sl P := h
theorem xx_mt {m : Str} {wf : WFX} {ns : List Str} {ts : List T} (hm : m ∉ ns) (h : a sl fun xs => xuG wf dts r P (.val (.ins C ns ts)) xs) : xtG m wf dts C a sl r P (.val (.ins C ns ts)) := ⟨_, _, rfl, hm, h⟩
theorem xx_uv {wf : WFX} {x : Sl} {xs : List Sl} (e : xs.all isArg = true) (h : wf r (x :: (xs ++ dts.map Sl.val)) P) : xuG wf dts r P x xs := ⟨e, h⟩
/-! __init__ -/
variable {q : List Str → List T → Prop} {ns : List Str} {ts : List T}
theorem xx_nseq {p s : WNX} (h : p r (fun ns' ts' => s r q sl ns' ts') sl ns ts) : xnSeq p s r q sl ns ts := h
theorem xx_nif {t : WT} {p s : WNX} (h : t sl fun v => ifG (p r q sl ns ts) (s r q sl ns ts) v) : xnIf t p s r q sl ns ts := h
theorem xx_nL {w : WN} (h : w q sl ns ts) : xnL w r q sl ns ts := h
theorem xx_nraise (h : r (.ref C) none) : xnRaise C r q sl ns ts := h
theorem xx_ndrop {e : WEX} (h : e r sl fun _ => q ns ts) : xnDrop e r q sl ns ts := h
/-! what a tried lambda tells -/
variable {em : Value → Value → Option Bool} {l : List (Value × Str)} {fine : Str} {cN : Str → Addr} {N : List Str}
def hdR (em : Value → Value → Option Bool) (P : Sl → Prop) (l : List (Value × Str))  : RX := fun cls _ => wHds em cls (fun t => P (.val (.str t))) l
theorem xx_met {w : WEX} (h : w (hdR em P l) sl fun _ => P (.val (.str fine))) : wMet em l fine w sl P := h
theorem xx_hit {x t : Str} (h : EmOk cN em N) (hx : x ∈ N) {o : XF} (p : P (.val (.str t))) : hdR em P ((.ref (cN x), t) :: l) (.ref (cN x)) o := ⟨true, by rw [h x hx x hx, decide_eq_true rfl], fun _ => p, fun z => (nomatch z)⟩
theorem xx_miss {x y t : Str} (h : EmOk cN em N) (hx : x ∈ N) (hy : y ∈ N) (hn : x ≠ y) {o : XF} (p : hdR em P l (.ref (cN y)) o) : hdR em P ((.ref (cN x), t) :: l) (.ref (cN y)) o := ⟨false, by rw [h y hy x hx, decide_eq_false (fun z => hn z.symm)], fun z => (nomatch z), fun _ => p⟩
/-! dice for one call -/
def odG (pre : List Sl → Prop) (wf : WF) (P : Sl → Prop) (xs : List Sl) : Prop := xs.all isArg = true ∧ pre xs ∧ wf [.dice] P
theorem xx_onDice {pre : List Sl → Prop} {wf : WF} (h : a sl fun xs => odG pre wf P xs) : wOnDice pre wf a sl P := h
theorem xx_is2 {g : Bool → Bool} {b c : Bool} (h : P (.val (.bl (g (b == c))))) : op2 (is2 g) P (.bl b) (.bl c) := ⟨_, rfl, h⟩
theorem xx_is2s {g : Bool → Bool} {b : Bool} (h : P (.val (.bl (g true)))) : op2 (is2 g) P (.bl b) (.bl b) := ⟨_, rfl, by cases b <;> exact h⟩
theorem xx_is2t {g : Bool → Bool} (h : P (.val (.bl (g false)))) : op2 (is2 g) P (.bl true) (.bl false) := ⟨_, rfl, h⟩
theorem xx_is2f {g : Bool → Bool} (h : P (.val (.bl (g false)))) : op2 (is2 g) P (.bl false) (.bl true) := ⟨_, rfl, h⟩
/-! loops over written lists -/
def clE (q : T → Prop) (x : Sl) : Prop := ∃ u, x = .val u ∧ q u
end
end Tr


set_option Elab.async false
set_option linter.all false
set_option maxRecDepth 100000
set_option maxHeartbeats 0
namespace Tr
open PySem PySem.Spec PyProof.Rows L2
variable [Tabl]
/-! defs that may raise, by what the head tells of them -/
section
variable {P : Program} {w : World} {K : PySem.W.Frag} {mg : Str → Option Value} {base : Heap} {x qual y m : Str} {params : Arguments} {body : List Stmt} {scope : Scope} {dvs : List V} {kws : List (Str × V)} {f C : Addr} {fd : FuncData} {ps : List Str} {k : Nat} {wf : WFX} {wm : WMX} {dts : List T}
abbrev AllGiven (x qual : Str) (params : Arguments) (body : List Stmt) (scope : Scope) (ps : List Str) : Prop :=
  ∀ (kV doc pm : Value) (an : Option Addr) (cdv ct : Value) (us : List Value), us.length = ps.length → bindArgs (PySem.W.fnOf x qual params body scope .none kV doc pm an cdv ct) ⟨us, []⟩ = pure (ps.zip us)
abbrev SomeLeft (x qual : Str) (params : Arguments) (body : List Stmt) (scope : Scope) (ps : List Str) (dvs : List V) (n j : Nat) : Prop :=
  ∀ (t : Addr) (kV doc pm : Value) (an : Option Addr) (cdv ct : Value) (us its : List Value), us.length = n → its.length = dvs.length →
    ∃ k, bindArgs (PySem.W.fnOf x qual params body scope (.ref t) kV doc pm an cdv ct) ⟨us, []⟩ = seqItems? (.ref t) >>= k ∧ k (some its.toArray) = pure (ps.zip (us ++ its.drop j))
theorem CallX.dfl (F : FunD K x qual params body scope dvs kws f fd) (G : FnOk P w K mg base (L2.CX P w) k f fd ps (spX K wf)) (hm : mg x = some (.ref f)) (n j : Nat) (hd : dvs ≠ []) (hn : n + (dvs.length - j) = ps.length) (h : SomeLeft x qual params body scope ps dvs n j) : CallX P w K mg base k x wf (dvs.drop j) := by
  obtain ⟨ds, h1, h2⟩ := F.binds1 n j hd hn h
  exact ⟨f, fd, ps, ds, G, hm, F.kp, h2, h1⟩
theorem MethX.of (F : FunD K x qual params body scope [] kws f fd) (G : FnOk P w K mg base (L2.CX P w) k f fd ps (spX K wf)) (M : Meth K C m f) (h : AllGiven x qual params body scope ps) : MethX P w K mg base k C m wf [] :=
  ⟨f, fd, ps, [], G, M, F.bindsN h, .nil⟩
theorem MethX.dfl (F : FunD K x qual params body scope dvs kws f fd) (G : FnOk P w K mg base (L2.CX P w) k f fd ps (spX K wf)) (M : Meth K C m f) (n j : Nat) (hd : dvs ≠ []) (hn : n + (dvs.length - j) = ps.length) (h : SomeLeft x qual params body scope ps dvs n j) : MethX P w K mg base k C m wf (dvs.drop j) := by
  obtain ⟨ds, h1, h2⟩ := F.binds1 n j hd hn h
  exact ⟨f, fd, ps, ds, G, M, h2, h1⟩
theorem MakeX.of (F : FunD K x qual params body scope [] kws f fd) (G : FnOk P w K mg base (L2.CX P w) k f fd ps (spNX K C wm)) (M : Mk K C f) (hm : mg y = some (.ref C)) (h : AllGiven x qual params body scope ps) : MakeX P w K mg base k y C [] wm :=
  ⟨f, fd, ps, [], [], M, G, hm, F.bindsN h, .nil, fun _ _ => .nil⟩
theorem MakeX.dfl (F : FunD K x qual params body scope dvs kws f fd) (G : FnOk P w K mg base (L2.CX P w) k f fd ps (spNX K C wm)) (M : Mk K C f) (hm : mg y = some (.ref C)) (n j : Nat) (hd : dvs ≠ []) (hn : n + (dvs.length - j) = ps.length) (h : SomeLeft x qual params body scope ps dvs n j)
    (hr : ∀ A H, RepAll K A H (dvs.drop j) dts) : MakeX P w K mg base k y C dts wm := by
  obtain ⟨ds, h1, h2⟩ := F.binds1 n j hd hn h
  exact ⟨f, fd, ps, ds, _, M, G, hm, h2, h1, hr⟩
end
end Tr


set_option Elab.async false
set_option linter.all false
set_option maxRecDepth 100000
set_option maxHeartbeats 0
namespace Tr
open PySem PySem.Spec PyProof.Rows L2
variable [Tabl]
/-! ### 24. steps of dicts -/
section
variable {sl : List Sl} {P : Sl → Prop} {f bk ct : List Sl → Prop} {rt : Sl → Prop} {a b c : WE} {v : WA} {w : WD} {q : List Key → List T → Prop} {ks : List Key} {ts : List T} {t u d : T} {k : Key} {i : Nat} {l : Addr} {neg : Bool} {Z : Str}
theorem x_wD (h : w sl fun ks ts => P (.val (.dct ks ts))) : wD w sl P := h
theorem x_DNew (h : q [] []) : wDNew sl q := h
theorem x_DCon (h : q ks ts) : wDCon ks ts sl q := h
def dcpG (q : List Key → List T → Prop) (xs : List Sl) : Prop := ∃ x ks ts, xs = [x] ∧ x.tree = some (.dct ks ts) ∧ q ks ts
theorem x_DCopy (h : v sl fun xs => dcpG q xs) : wDCopy v sl q := h
theorem x_dcpv (h : q ks ts) : dcpG q [.val (.dct ks ts)] := ⟨_, ks, ts, rfl, rfl, h⟩
theorem x_dcpo (h : q ks ts) : dcpG q [.ownd l ks ts] := ⟨_, ks, ts, rfl, rfl, h⟩
def odnG (i : Nat) (f : List Sl → Prop) (sl : List Sl) (ks : List Key) (ts : List T) : Prop := ∀ l, f (sl.set i (.ownd l ks ts))
theorem x_ownD (h : w sl fun ks ts => odnG i f sl ks ts) : wOwnD w i ⟨f, rt, bk, ct⟩ sl := h
theorem x_ownDv (h : ∀ l, stG f i (.ownd l ks ts) sl) : odnG i f sl ks ts := h
def dg1 (b : WE) (sl : List Sl) (P : Sl → Prop) (x : Sl) : Prop := ∃ ks ts, x.tree = some (.dct ks ts) ∧ b sl fun y => ∃ u k, y = .val u ∧ keyT u = some k ∧ P (.val ((getK ks ts k).getD .non))
def dg1k (ks : List Key) (ts : List T) (P : Sl → Prop) (y : Sl) : Prop := ∃ u k, y = .val u ∧ keyT u = some k ∧ P (.val ((getK ks ts k).getD .non))
theorem x_dg1 (h : a sl fun x => dg1 b sl P x) : wDGet1 a b sl P := h
theorem x_dg1v (h : b sl fun y => dg1k ks ts P y) : dg1 b sl P (.val (.dct ks ts)) := ⟨ks, ts, rfl, h⟩
theorem x_dg1o (h : b sl fun y => dg1k ks ts P y) : dg1 b sl P (.ownd l ks ts) := ⟨ks, ts, rfl, h⟩
theorem x_dg1s (h : P (.val ((getK ks ts (.inr Z)).getD .non))) : dg1k ks ts P (.val (.str Z)) := ⟨_, _, rfl, rfl, h⟩
theorem x_dg1i {n : Int} (h : P (.val ((getK ks ts (.inl n)).getD .non))) : dg1k ks ts P (.val (.int n)) := ⟨_, _, rfl, rfl, h⟩
def dg2 (b c : WE) (sl : List Sl) (P : Sl → Prop) (x : Sl) : Prop := ∃ ks ts, x.tree = some (.dct ks ts) ∧ b sl fun y => c sl fun z => ∃ u k d, y = .val u ∧ keyT u = some k ∧ z = .val d ∧ P (.val ((getK ks ts k).getD d))
def dg2b (c : WE) (sl : List Sl) (ks : List Key) (ts : List T) (P : Sl → Prop) (y : Sl) : Prop := c sl fun z => ∃ u k d, y = .val u ∧ keyT u = some k ∧ z = .val d ∧ P (.val ((getK ks ts k).getD d))
def dg2c (ks : List Key) (ts : List T) (k : Key) (P : Sl → Prop) (z : Sl) : Prop := ∃ d, z = .val d ∧ P (.val ((getK ks ts k).getD d))
theorem x_dg2 (h : a sl fun x => dg2 b c sl P x) : wDGet2 a b c sl P := h
theorem x_dg2v (h : b sl fun y => dg2b c sl ks ts P y) : dg2 b c sl P (.val (.dct ks ts)) := ⟨ks, ts, rfl, h⟩
theorem x_dg2o (h : b sl fun y => dg2b c sl ks ts P y) : dg2 b c sl P (.ownd l ks ts) := ⟨ks, ts, rfl, h⟩
/-- the reading of an expression in a def's ends grows with what is wished -/
def Mono (c : WE) : Prop := ∀ sl (P Q : Sl → Prop), (∀ x, P x → Q x) → c sl P → c sl Q
theorem x_dg2Cs {z : T} (h : P (.val ((getK ks ts (.inr Z)).getD z))) : dg2b (wC z) sl ks ts P (.val (.str Z)) := ⟨_, _, z, rfl, rfl, rfl, h⟩
theorem x_dg2Ci {z : T} {n : Int} (h : P (.val ((getK ks ts (.inl n)).getD z))) : dg2b (wC z) sl ks ts P (.val (.int n)) := ⟨_, _, z, rfl, rfl, rfl, h⟩
def diA (neg : Bool) (b : WE) (sl : List Sl) (P : Sl → Prop) (x : Sl) : Prop := b sl fun y => ∃ u k ks ts, x = .val u ∧ keyT u = some k ∧ y.tree = some (.dct ks ts) ∧ P (.val (.bl (if neg = true then !(getK ks ts k).isSome else (getK ks ts k).isSome)))
def diB (neg : Bool) (k : Key) (P : Sl → Prop) (y : Sl) : Prop := ∃ ks ts, y.tree = some (.dct ks ts) ∧ P (.val (.bl (if neg = true then !(getK ks ts k).isSome else (getK ks ts k).isSome)))
theorem x_dIn (h : a sl fun x => diA neg b sl P x) : wDIn neg a b sl P := h
theorem x_diV {j : Nat} {x : Sl} (e : nth sl j = x) (s : x.tree = some (.dct ks ts)) (q : keyT u = some k) (h : P (.val (.bl (if neg = true then !(getK ks ts k).isSome else (getK ks ts k).isSome)))) : diA neg (wVar j) sl P (.val u) := by
  refine ⟨fun z => ?_, u, k, ks, ts, rfl, q, by rw [e]; exact s, h⟩
  rw [z] at e
  rw [← e] at s
  cases s
theorem x_diVs {j : Nat} {x : Sl} (e : nth sl j = x) (s : x.tree = some (.dct ks ts)) (h : P (.val (.bl (if neg = true then !(getK ks ts (.inr Z)).isSome else (getK ks ts (.inr Z)).isSome)))) : diA neg (wVar j) sl P (.val (.str Z)) := x_diV e s rfl h
theorem x_diVi {j : Nat} {x : Sl} {n : Int} (e : nth sl j = x) (s : x.tree = some (.dct ks ts)) (h : P (.val (.bl (if neg = true then !(getK ks ts (.inl n)).isSome else (getK ks ts (.inl n)).isSome)))) : diA neg (wVar j) sl P (.val (.int n)) := x_diV e s rfl h
def revG (P : Sl → Prop) (x : Sl) : Prop := ∃ s z, x.tree = some s ∧ revT s = some z ∧ P (.val z)
theorem x_rev (h : a sl fun x => revG P x) : wRev a sl P := h
theorem x_revt (h : P (.val (.tup ts.reverse))) : revG P (.val (.tup ts)) := ⟨_, _, rfl, rfl, h⟩
theorem x_revl (h : P (.val (.lst ts.reverse))) : revG P (.val (.lst ts)) := ⟨_, _, rfl, rfl, h⟩
theorem x_lstn {q : List T → Prop} {xs : List Sl} {us : List T} (e : trees xs = some us) (hl : us.length ≤ 1000000) (h : q us) : lstG q xs := ⟨us, e, hl, h⟩
/-! what a tried lambda tells, its handlers any expressions -/
def anyW (w : WE) (P : Sl → Prop) : Prop := ∀ n, w (List.replicate n .any) P
theorem x_any {w : WE} (h : ∀ n, w (List.replicate n .any) P) : anyW w P := h
def hdW (em : Value → Value → Option Bool) (P : Sl → Prop) (l : List (Value × WE)) : RX := fun cls _ => wHdsW em cls (fun w => anyW w P) l
theorem x_metW {em : Value → Value → Option Bool} {l : List (Value × WE)} {wf : WE} {wb : WEX} (h : wb (hdW em P l) sl fun _ => anyW wf P) : wMetW em l wf wb sl P := h
theorem x_hitW {em : Value → Value → Option Bool} {l : List (Value × WE)} {w : WE} {cN : Str → Addr} {N : List Str} {x : Str} (h : EmOk cN em N) (hx : x ∈ N) {o : XF} (p : anyW w P) : hdW em P ((.ref (cN x), w) :: l) (.ref (cN x)) o := ⟨true, by rw [h x hx x hx, decide_eq_true rfl], fun _ => p, fun z => (nomatch z)⟩
theorem x_missW {em : Value → Value → Option Bool} {l : List (Value × WE)} {w : WE} {cN : Str → Addr} {N : List Str} {x y : Str} (h : EmOk cN em N) (hx : x ∈ N) (hy : y ∈ N) (hn : x ≠ y) {o : XF} (p : hdW em P l (.ref (cN y)) o) : hdW em P ((.ref (cN x), w) :: l) (.ref (cN y)) o := ⟨false, by rw [h y hy x hx, decide_eq_false (fun z => hn z.symm)], fun z => (nomatch z), fun _ => p⟩
def dputG (l : Addr) (ks : List Key) (ts : List T) (i : Nat) (f : List Sl → Prop) (sl : List Sl) (t : T) (y : Sl) : Prop := ∃ u n, y = .val u ∧ keyT u = some n ∧ f (sl.set i (.ownd l (putKs n ks) (putVs n t ks ts)))
def dputH (ix : WE) (i : Nat) (f : List Sl → Prop) (sl : List Sl) (x : Sl) : Prop := ∃ t, x = .val t ∧ ∃ l ks ts, nth sl i = .ownd l ks ts ∧ ks.length < 1000000 ∧ ix sl fun y => ∃ u n, y = .val u ∧ keyT u = some n ∧ f (sl.set i (.ownd l (putKs n ks) (putVs n t ks ts)))
theorem x_dput (h : b sl fun x => dputH a i f sl x) : wDPut i a b ⟨f, rt, bk, ct⟩ sl := h
theorem x_dputH (e : nth sl i = .ownd l ks ts) (hl : ks.length < 1000000) (h : a sl fun y => dputG l ks ts i f sl t y) : dputH a i f sl (.val t) := ⟨t, rfl, l, ks, ts, e, hl, h⟩
theorem x_dputs (h : stG f i (.ownd l (putKs (.inr Z) ks) (putVs (.inr Z) t ks ts)) sl) : dputG l ks ts i f sl t (.val (.str Z)) := ⟨_, _, rfl, rfl, h⟩
theorem x_dputi {n : Int} (h : stG f i (.ownd l (putKs (.inl n) ks) (putVs (.inl n) t ks ts)) sl) : dputG l ks ts i f sl t (.val (.int n)) := ⟨_, _, rfl, rfl, h⟩
end
end Tr


set_option Elab.async false
set_option linter.all false
set_option maxRecDepth 100000
set_option maxHeartbeats 0
/-! dict comprehensions -/
namespace Tr
open PySem PySem.Spec PyProof.Rows L2
variable [Tabl]
section
variable {X : Cx} {K : PySem.W.Frag}
def wDColl (g : Tg) (wt : WT) (wk wv : WE) (sl : List Sl) (P : List Key → List T → Prop) : List T → List Key → List T → Prop
  | [], ks, us => P ks us
  | t :: r, ks, us => ∃ sl', g.st t sl = some sl' ∧ wt sl' fun b => if b = true then wk sl' fun y => wv sl' fun z => ∃ u n d, y = .val u ∧ keyT u = some n ∧ z = .val d ∧ wDColl g wt wk wv sl P r (putKs n ks) (putVs n d ks us) else wDColl g wt wk wv sl P r ks us
/-- {k: v for .. in .. if ..} -/
def wDc (wi : WI) (g : Tg) (wt : WT) (wk wv : WE) (vs : List Nat) : WD := fun sl P => wi sl fun ts => ts.length ≤ 100000 ∧ wDColl g wt wk wv (wipeS sl vs) P ts [] []
end
end Tr


set_option Elab.async false
set_option linter.all false
set_option maxRecDepth 100000
set_option maxHeartbeats 0
/-! a dict is walked: it stands locked meanwhile -/
namespace Tr
open PySem PySem.Spec PyProof.Rows L2
variable [Tabl]
section
variable {K : PySem.W.Frag} {F : Fx} {D A A0 D0 : Avoid} {H H' : Hp} {σ : L2.St} {sl : List Sl} {d : Addr} {kvs : List (Key × V)} {od : Obj}
/-- the dict kvs, locked or not -/
def Sw (kvs : List (Key × V)) (o : HO) : Prop := o = .dK kvs ∨ ∃ u, o = .frz u (.dK kvs)
structure SwAt (H H' : Hp) (d : Addr) (kvs : List (Key × V)) : Prop where
  out : ∀ a, a ≠ d → H' a = H a
  was : ∃ o, H d = some o ∧ Sw kvs o
  now : ∃ o, H' d = some o ∧ Sw kvs o
theorem SwAt.keep (h : SwAt H H' d kvs) {a : Addr} {o : HO} (e : H a = some o) (n : ¬ Sw kvs o) : H' a = some o := by
  by_cases z : a = d
  · obtain ⟨u, hu, su⟩ := h.was
    rw [z, hu] at e
    cases e
    exact absurd su n
  · rw [h.out a z]; exact e
theorem sw_tup {xs : List V} : ¬ Sw kvs (.tup xs) := fun z => by rcases z with z | ⟨u, z⟩ <;> cases z
theorem sw_lst {xs : List V} : ¬ Sw kvs (.lst xs) := fun z => by rcases z with z | ⟨u, z⟩ <;> cases z
theorem sw_scr {o : Obj} {xs : List V} : ¬ Sw kvs (.frz o (.lst xs)) := fun z => by
  rcases z with z | ⟨u, z⟩
  · cases z
  · injection z with z1 z2
    cases z2
theorem sw_ins {C dx : Addr} {fs : List (Str × V)} : ¬ Sw kvs (.ins C dx fs) := fun z => by rcases z with z | ⟨u, z⟩ <;> cases z
theorem sw_own {x : Addr} : ¬ Sw kvs (.own x) := fun z => by rcases z with z | ⟨u, z⟩ <;> cases z
theorem sw_xd {fs : List (Str × V)} : ¬ Sw kvs (.xd fs) := fun z => by rcases z with z | ⟨u, z⟩ <;> cases z
theorem sw_tbl {ps : Array Value} : ¬ Sw kvs (.tbl ps) := fun z => by rcases z with z | ⟨u, z⟩ <;> cases z
theorem sw_code {c : Addr} {q : Str} : ¬ Sw kvs (LamX.CodeO c q) := fun z => by
  unfold LamX.CodeO at z
  rcases z with z | ⟨u, z⟩ <;> cases z
theorem SwAt.dict (h : SwAt H H' d kvs) {a : Addr} {ws : List (Key × V)} (e : H a = some (.dK ws) ∨ ∃ o, H a = some (.frz o (.dK ws))) : H' a = some (.dK ws) ∨ ∃ o, H' a = some (.frz o (.dK ws)) := by
  by_cases z : a = d
  · obtain ⟨u, hu, su⟩ := h.was
    have ew : ws = kvs := by
      rw [z, hu] at e
      rcases e with e | ⟨o, e⟩ <;> have e := Option.some.inj e <;> subst e
      · rcases su with s | ⟨v, s⟩
        · injection s
        · cases s
      · rcases su with s | ⟨v, s⟩
        · cases s
        · injection s with s1 s2
          injection s2
    obtain ⟨u2, hu2, su2⟩ := h.now
    rw [z, ew]
    rcases su2 with s | ⟨v, s⟩
    · exact .inl (by rw [hu2, s])
    · exact .inr ⟨v, by rw [hu2, s]⟩
  · rw [h.out a z]; exact e
mutual
theorem Rep.sw (h : SwAt H H' d kvs) : ∀ {v : V} {t : T}, Rep K A H v t → Rep K A H' v t
  | _, _, .non => .non
  | _, _, .bl b => .bl b
  | _, _, .int i => .int i
  | _, _, .str x => .str x
  | _, _, .ty n => .ty n
  | _, _, .tup n e r => .tup n (h.keep e sw_tup) (RepAll.sw h r)
  | _, _, .tupK e r => .tupK e (RepAll.sw h r)
  | _, _, .lst n e r => .lst n (h.keep e sw_lst) (RepAll.sw h r)
  | _, _, .scr n e r => .scr n (h.keep e sw_scr) (RepAll.sw h r)
  | _, _, .scrK e r => .scrK e (RepAll.sw h r)
  | _, _, .dct n e l r => .dct n (h.dict e) l (RepAll.sw h r)
  | _, _, .ins n m e k l r => .ins n m (h.keep e sw_ins) (h.keep k sw_own) l (RepAll.sw h r)
  | _, _, .fn a => .fn a
  | _, _, .exc n e r => .exc n (h.keep e sw_xd) (Rep.sw h r)
theorem RepAll.sw (h : SwAt H H' d kvs) : ∀ {vs : List V} {ts : List T}, RepAll K A H vs ts → RepAll K A H' vs ts
  | _, _, .nil => .nil
  | _, _, .cons q r => .cons (Rep.sw h q) (RepAll.sw h r)
end
theorem DiceAt.sw (h : SwAt H H' d kvs) {a : Addr} (q : DiceAt H a) : DiceAt H' a := by
  obtain ⟨x, y, z, e⟩ := q
  exact ⟨x, y, z, h.keep e sw_lst⟩
theorem tabS_sw (h : SwAt H H' d kvs) {p : Addr} {q : Str} (t : LamX.TabS H p q) : LamX.TabS H' p q := by
  obtain ⟨ps, h1, h2, h3⟩ := t
  refine ⟨ps, h.keep h1 sw_tbl, h2, fun pos cv hc => ?_⟩
  obtain ⟨c, e1, e2⟩ := h3 pos cv hc
  exact ⟨c, e1, h.keep e2 sw_code⟩
theorem Slots.sw (h : SwAt H H' d kvs) (hA : d ∉ A) (s : Slots K D A0 A H σ sl) : Slots K D A0 A H' σ sl := by
  refine Paired.imp (fun o x q => ?_) s
  rcases q with q | ⟨v, q1, q2⟩
  · exact .inl q
  · refine .inr ⟨v, q1, ?_⟩
    cases x with
    | any => trivial
    | val t => exact Rep.sw h q2
    | dice =>
      obtain ⟨e, g1, g2, g3⟩ := q2
      exact ⟨e, g1, g2, g3.sw h⟩
    | ob l ts =>
      obtain ⟨g1, g2, g3, g4, g5⟩ := q2
      exact ⟨g1, g2, g3, g4, g5.map (fun u q => by rw [h.out l (fun z => hA (by rw [← z]; exact g2))]; exact q) fun _ _ r => RepAll.sw h r⟩
theorem SwAt.symm (h : SwAt H H' d kvs) : SwAt H' H d kvs := ⟨fun a n => (h.out a n).symm, h.now, h.was⟩
def lockH (H0 : Hp) (d : Addr) (o : HO) : Hp := if (H0 d).isSome = true then upd H0 d o else H0
def Fx.lock (F : Fx) (d : Addr) (od : Obj) (kvs : List (Key × V)) : Fx := { F with H0 := lockH F.H0 d (.frz od (.dK kvs)), L := (d, od, kvs) :: F.L }
theorem lock_sw (hd : H d = some (.dK kvs)) : SwAt H (upd H d (.frz od (.dK kvs))) d kvs := ⟨fun a n => upd_ne n, ⟨_, hd, .inl rfl⟩, ⟨_, upd_same, .inr ⟨_, rfl⟩⟩⟩
/-- the base: as it was, or the dict locked there too -/
theorem base_sw {H0 : Hp} (e : H0 d = none ∨ H0 d = some (.dK kvs)) : (H0 d = none ∧ lockH H0 d (.frz od (.dK kvs)) = H0) ∨ SwAt H0 (lockH H0 d (.frz od (.dK kvs))) d kvs := by
  unfold lockH
  rcases e with e | e
  · left; rw [e]; exact ⟨rfl, rfl⟩
  · right; rw [if_pos (by rw [e]; rfl)]; exact lock_sw e
theorem lock_none {H0 : Hp} {a : Addr} {o : HO} (h : H0 a = none) : lockH H0 d o a = none := by
  unfold lockH
  split
  · rename_i q
    rw [upd_ne (fun z => by rw [← z, h] at q; cases q)]; exact h
  · exact h
theorem Keep.swl {H0 H0' : Hp} {e : Addr} (b : (H0' = H0) ∨ SwAt H0' H0 d kvs) (h : SwAt H H' d kvs) (k : Keep H0 H e) : Keep H0' H' e := by
  refine ⟨fun q => ?_, fun q m t => ?_⟩
  · refine (k.1 ?_).sw h
    rcases b with b | b
    · rw [← b]; exact q
    · exact q.sw b
  · refine tabS_sw h (k.2 q m ?_)
    rcases b with b | b
    · rw [← b]; exact t
    · exact tabS_sw b t
theorem Sta.lock (S : Sta K F D A H σ sl) (hd : H d = some (.dK kvs)) (hA : d ∉ A) : (F.H0 d = none ∨ F.H0 d = some (.dK kvs)) ∧ Sta K (F.lock d od kvs) D A (upd H d (.frz od (.dK kvs))) σ sl := by
  have h := lock_sw (od := od) hd
  have hD0 : d ∉ F.D0 := fun z => hA (S.dA d (S.dsub d z))
  have e0 : F.H0 d = none ∨ F.H0 d = some (.dK kvs) := by
    cases e : F.H0 d with
    | none => exact .inl rfl
    | some o => right; rw [← S.ext d o hD0 e]; exact hd
  have b := base_sw (od := od) e0
  refine ⟨e0, fun e he => ?_, S.dA, S.sub, fun a ha => ?_, fun a ha => ?_, fun e he => ?_, S.dsub, fun e he => ?_, fun p hp => ?_, fun a o n q => ?_, S.slots.sw h hA, S.dist, fun p hp => (S.gh p hp).sw h, fun p hp => ?_⟩
  · rcases S.dice e he with z | ⟨q, m, t⟩
    · exact .inl (z.sw h)
    · exact .inr ⟨q, m, tabS_sw h t⟩
  · rw [upd_ne (fun z => hA (by rw [← z]; exact ha))]; exact S.alive a ha
  · exact (S.base a ha).imp id lock_none
  · exact (S.dbase e he).imp id lock_none
  · exact (S.keep e he).swl (b.imp (fun z => z.2) fun z => z.symm) h
  · refine ⟨(S.tabs p hp).1, ?_⟩
    rcases b with b | b
    · show LamX.TabS (lockH F.H0 d _) _ _
      rw [b.2]; exact (S.tabs p hp).2
    · exact tabS_sw b (S.tabs p hp).2
  · by_cases z : a = d
    · rw [z, upd_same]
      have q : lockH F.H0 d (.frz od (.dK kvs)) a = some o := q
      rw [z] at q
      rcases b with b | b
      · rw [b.2, b.1] at q; cases q
      · unfold lockH at q
        rcases e0 with e | e
        · rw [if_neg (by rw [e]; exact Bool.false_ne_true), e] at q; cases q
        · rw [if_pos (by rw [e]; rfl), upd_same] at q
          exact q
    · rw [upd_ne z]
      refine S.ext a o n ?_
      have q : lockH F.H0 d (.frz od (.dK kvs)) a = some o := q
      unfold lockH at q
      split at q
      · rwa [upd_ne z] at q
      · exact q
  · rcases List.mem_cons.mp hp with z | z
    · rw [z]; exact ⟨hA, upd_same⟩
    · have := S.lk p z
      refine ⟨this.1, ?_⟩
      rw [upd_ne (fun z => by rw [z, hd] at this; cases this.2)]; exact this.2
end
end Tr


set_option Elab.async false
set_option linter.all false
set_option maxRecDepth 100000
set_option maxHeartbeats 0
/-! comprehensions and loops over a dict's keys, items -/
namespace Tr
open PySem PySem.Spec PyProof.Rows L2
variable [Tabl]
section
variable {K : PySem.W.Frag} {F : Fx} {D A A0 D0 : Avoid} {H H' : Hp} {σ : L2.St} {sl : List Sl} {d : Addr} {kvs : List (Key × V)} {od : Obj}
abbrev WPD := List Sl → List Key → List T → Prop
/-- an expression whose value is a dict that is nobody's own, told ahead -/
def PathD (K : PySem.W.Frag) (tp : TE) (wp : WPD) : Prop := ∀ F D A H σ sl ks ts, Sta K F D A H σ sl → wp sl ks ts → ∃ (d : Addr) (vs : List V), d ∉ A ∧ (H d = some (.dK (ks.zip vs)) ∨ ∃ o, H d = some (.frz o (.dK (ks.zip vs)))) ∧ ks.length = vs.length ∧ RepAll K A H vs ts ∧
  (∀ Q : VK, Q (.ref d) H → tp σ H Q) ∧ ∀ (o' : HO) (Q : VK), H d = some (.dK (ks.zip vs)) → Q (.ref d) (upd H d o') → tp σ (upd H d o') Q
def wpVar (i : Nat) : WPD := fun sl ks ts => nth sl i = .val (.dct ks ts)
/-- what is walked: the items, the keys -/
structure DIt (K : PySem.W.Frag) (wi : TE → TI) (mk : List Key → List T → List T) where
  J : Addr → Obj → List (Key × V) → It
  ti : ∀ {tp : TE} {σ : L2.St} {H : Hp} {R : It → Hp → Prop} {d : Addr} {o : Obj} {kvs : List (Key × V)}, (∀ Q : VK, Q (.ref d) H → tp σ H Q) → H d = some (.frz o (.dK kvs)) → R (J d o kvs) H → wi tp σ H R
  ok : ∀ {A : Avoid} {H : Hp} {d : Addr} {o : Obj} {ks : List Key} {vs : List V} {ts : List T}, d ∉ A → H d = some (.frz o (.dK (ks.zip vs))) → ks.length = vs.length → RepAll K A H vs ts → ItOk K A H (J d o (ks.zip vs)) (mk ks ts)
def mkI (ks : List Key) (ts : List T) : List T := List.zipWith (fun k t => T.tup [keyW k, t]) ks ts
def mkK (ks : List Key) (_ : List T) : List T := ks.map keyW
def di_items : DIt K iItems mkI where
  J := Iti
  ti := fun t hd r => t _ ⟨_, _, _, rfl, hd, r⟩
  ok := fun n hd l r => .itm n hd l r
def di_keys : DIt K iKeys mkK where
  J := Itk
  ti := fun t hd r => t _ ⟨_, _, rfl, .inl ⟨_, hd, r⟩⟩
  ok := fun n hd l _ => .key n hd l
/-- the one reading, or the other -/
def tOrE (a b : TE) : TE := fun σ H Q => a σ H Q ∨ b σ H Q
theorem pe_or {X : Cx} {e : Expr} {a b : TE} (h1 : PE X e a) (h2 : PE X e b) : PE X e (tOrE a b) := ⟨fun pins s σ H Q I h => h.elim (h1.run pins s σ H Q I) (h2.run pins s σ H Q I)⟩
def tOrS (a b : TS) : TS := fun D σ H => a D σ H ∨ b D σ H
def wLcI (wp : WPD) (mk : List Key → List T → List T) (g : Tg) (wt : WT) (we : WE) (vs : List Nat) : WL := fun sl P => ∃ ks ts, wp sl ks ts ∧ (mk ks ts).length ≤ 100000 ∧ wColl g wt we (wipeS sl vs) P (mk ks ts) []
def wDcI (wp : WPD) (mk : List Key → List T → List T) (g : Tg) (wt : WT) (wk wv : WE) (vs : List Nat) : WD := fun sl P => ∃ ks ts, wp sl ks ts ∧ (mk ks ts).length ≤ 100000 ∧ wDColl g wt wk wv (wipeS sl vs) P (mk ks ts) [] []
def wForI (wp : WPD) (mk : List Key → List T → List T) (g : Tg) (b : WS) : WS := fun k sl => ∃ ks ts, wp sl ks ts ∧ wForL g b k (mk ks ts) sl
theorem SlOk.sw {v : V} {x : Sl} (h : SwAt H H' d kvs) (hA : d ∉ A) (q2 : SlOk K D A0 A H v x) : SlOk K D A0 A H' v x := by
  cases x with
  | any => trivial
  | val t => exact Rep.sw h q2
  | dice =>
    obtain ⟨e, g1, g2, g3⟩ := q2
    exact ⟨e, g1, g2, g3.sw h⟩
  | ob l ts =>
    obtain ⟨g1, g2, g3, g4, g5⟩ := q2
    exact ⟨g1, g2, g3, g4, g5.map (fun u q => by rw [h.out l (fun z => hA (by rw [← z]; exact g2))]; exact q) fun _ _ r => RepAll.sw h r⟩
end
section
variable {X : Cx}
end
end Tr
namespace Tr
open PySem PySem.Spec PyProof.Rows L2
variable [Tabl]
/-- a field of an instance that a slot holds -/
def wpFld (C : Addr) (f : Str) (i : Nat) : WPD := fun sl ks ts => ∃ ns us, nth sl i = .val (.ins C ns us) ∧ (ns.zip us).lookup f = some (.dct ks ts)
end Tr


set_option Elab.async false
set_option linter.all false
set_option maxRecDepth 100000
set_option maxHeartbeats 0
/-! sorted(d) of a dict: its keys -/
namespace L2
open PySem PySem.Spec PyProof.Rows PySem.W
def keyD : Key → PyData
  | .inl i => .int i
  | .inr z => .str z
def rSortK : List V → Hp → VK → Prop := fun vs H Q => ∃ (d : Addr) (kvs : List (Key × V)), vs = [V.ref d] ∧ Rd H d (.dK kvs) ∧ AllAlike ((kvs.map (·.1)).map keyD) ∧ Sortable ((kvs.map (·.1)).map keyD) ∧
  ∀ p, H p = none → Q (.ref p) (upd H p (.lst (((kvs.map (·.1)).mergeSort (dataLe false keyD)).map kV)))
section
variable {X : Cx}
end
end L2


set_option Elab.async false
set_option linter.all false
set_option maxRecDepth 100000
set_option maxHeartbeats 0
/-! lists of a dict: sorted(d), list(d), list(d.items()); x.pop(k, d) -/
namespace Tr
open PySem PySem.Spec PyProof.Rows L2
variable [Tabl]
section
variable {K : PySem.W.Frag} {A : Avoid} {H : Hp}
structure SrtK (ks : List Key) : Prop where
  alike : PySem.W.AllAlike (ks.map keyD)
  able : PySem.W.Sortable (ks.map keyD)
def sortK (ks : List Key) : List Key := ks.mergeSort (PySem.W.dataLe false keyD)
def wSortK (a : WA) : WL := fun sl P => a sl fun xs => ∃ x ks ts, xs = [x] ∧ x.tree = some (.dct ks ts) ∧ SrtK ks ∧ P ((sortK ks).map keyW)
def wListK (a : WA) : WL := fun sl P => a sl fun xs => ∃ x ks ts, xs = [x] ∧ x.tree = some (.dct ks ts) ∧ P (ks.map keyW)
def wItemsL (a : WE) : WL := fun sl P => a sl fun x => ∃ ks ts, x.tree = some (.dct ks ts) ∧ P (mkI ks ts)
end
section
variable {X : Cx}
/-- list(e.items()), whether the dict is locked or not -/
def tItemsR (te : TE) : TE := fun σ H Q => te σ H fun x H1 => ∃ (d : Addr) (kvs : List (Key × V)), x = .ref d ∧ Rd H1 d (.dK kvs) ∧ ∀ (H' : Hp) (p : Addr) (as : List Addr), (∀ b o, H1 b = some o → H' b = some o) → H1 p = none → (∀ t ∈ as, H1 t = none) → p ∉ as → H' p = some (.lst (as.map V.ref)) →
  Paired (fun (t : Addr) (kv : Key × V) => H' t = some (.tup [kV kv.1, kv.2])) as kvs → Q (.ref p) H'
end
end Tr


set_option Elab.async false
set_option linter.all false
set_option maxRecDepth 100000
set_option maxHeartbeats 0
/-! name = {k: v for ..} on one line; dicts of one's own are frozen; paths walked -/
namespace L2
open PySem PySem.Spec PyProof.Rows
section
variable {X : Cx}
end
end L2
namespace Tr
open PySem PySem.Spec PyProof.Rows L2
variable [Tabl]
section
variable {X : Cx} {K : PySem.W.Frag}
/-! name = {..}: as a value, as a dict of one's own -/
section
variable {y : Str} {py spos : Pos} {kx vx tg iter : Expr} {ifs : List Expr} {scope : Scope} {own : List (Str × Nat)} {pos : Pos} {g : Tg} {wt : WT} {tt : TT} {wk wv : WE}
end
def wFrzD (i : Nat) (w : WS) : WS := fun k sl => ∃ l ks ts, nth sl i = .ownd l ks ts ∧ w k (sl.set i (.val (.dct ks ts)))
end
end Tr


set_option Elab.async false
set_option linter.all false
set_option maxRecDepth 100000
set_option maxHeartbeats 0
/-! len(d), not d, dict(pairs) with keys twice, a dict written out -/
namespace Tr
open PySem PySem.Spec PyProof.Rows L2
variable [Tabl]
section
variable {X : Cx} {K : PySem.W.Frag} {A : Avoid} {H : Hp}
def wLenD (a : WA) : WE := fun sl P => a sl fun xs => ∃ x ks ts, xs = [x] ∧ x.tree = some (.dct ks ts) ∧ P (.val (.int (ks.length : Nat)))
/-- not x, x a dict of one's own -/
def wNotOD (i : Nat) : WE := fun sl P => ∃ l ks ts, nth sl i = .ownd l ks ts ∧ P (.val (.bl ks.isEmpty))
/-- the pairs laid one by one -/
def layK {α : Type} : List (Key × α) → List Key → List α → List Key × List α
  | [], ks, ts => (ks, ts)
  | (k, t) :: r, ks, ts => layK r (putKs k ks) (putVs k t ks ts)
def wDictM (a : WA) : WD := fun sl P => a sl fun xs => ∃ x ts kvt, xs = [x] ∧ x.tree = some (.lst ts) ∧ pairsT ts = some kvt ∧ P (layK kvt [] []).1 (layK kvt [] []).2
/-- {k: v} of one pair -/
def wDOne (a b : WE) : WD := fun sl P => a sl fun y => b sl fun z => ∃ u n d, y = .val u ∧ keyT u = some n ∧ z = .val d ∧ P [n] [d]
end
end Tr


set_option Elab.async false
set_option linter.all false
set_option maxRecDepth 100000
set_option maxHeartbeats 0
/-! name = {.. for .. in d.items()}; a, b = e, {} -/
namespace Tr
open PySem PySem.Spec PyProof.Rows L2
variable [Tabl]
section
variable {X : Cx} {y : Str} {py spos : Pos} {kx vx tg iter : Expr} {ifs : List Expr} {scope : Scope} {own : List (Str × Nat)} {pos : Pos} {g : Tg} {wt : WT} {tt : TT} {wk wv : WE} {wi : TE → TI} {mk : List Key → List T → List T} {tp : TE} {wp : WPD}
end
section
variable {X : Cx}
def wParVD (i j : Nat) (a : WE) (w : WD) : WS := fun k sl => a sl fun x => storable x = true ∧ w sl fun ks ts => ∀ l, k.nx ((sl.set i x).set j (.ownd l ks ts))
end
end Tr


set_option Elab.async false
set_option linter.all false
set_option maxRecDepth 100000
set_option maxHeartbeats 0
namespace Tr
open PySem PySem.Spec PyProof.Rows L2
variable [Tabl]
/-! ### 25. steps over dicts -/
section
variable {sl : List Sl} {P : Sl → Prop} {Q : Bool → Prop} {f bk ct : List Sl → Prop} {rt : Sl → Prop} {a b : WE} {v : WA} {q : List Key → List T → Prop} {ql : List T → Prop} {ks : List Key} {ts us : List T} {t u : T} {k : Key} {i j : Nat} {l : Addr} {mk : List Key → List T → List T} {g : Tg} {wt : WT} {we wk wv : WE} {vs : List Nat} {Z : Str}
theorem x_lcI (e : nth sl i = .val (.dct ks ts)) (h : lcG g wt we (wipeS sl vs) ql (mk ks ts)) : wLcI (wpVar i) mk g wt we vs sl ql := ⟨ks, ts, e, h.1, h.2⟩
def dcG (g : Tg) (wt : WT) (wk wv : WE) (sl : List Sl) (q : List Key → List T → Prop) (ts : List T) : Prop := ts.length ≤ 100000 ∧ wDColl g wt wk wv sl q ts [] []
theorem x_dc {wi : WI} (h : wi sl fun ts => dcG g wt wk wv (wipeS sl vs) q ts) : wDc wi g wt wk wv vs sl q := h
theorem x_dcI (e : nth sl i = .val (.dct ks ts)) (h : dcG g wt wk wv (wipeS sl vs) q (mk ks ts)) : wDcI (wpVar i) mk g wt wk wv vs sl q := ⟨ks, ts, e, h.1, h.2⟩
theorem x_forI {b : WS} {kk : Ks} (e : nth sl i = .val (.dct ks ts)) (h : wForL g b kk (mk ks ts) sl) : wForI (wpVar i) mk g b kk sl := ⟨ks, ts, e, h⟩
def sortKG (ql : List T → Prop) (xs : List Sl) : Prop := ∃ x ks ts, xs = [x] ∧ x.tree = some (.dct ks ts) ∧ SrtK ks ∧ ql ((sortK ks).map keyW)
theorem x_sortK (h : v sl fun xs => sortKG ql xs) : wSortK v sl ql := h
def listKG (ql : List T → Prop) (xs : List Sl) : Prop := ∃ x ks ts, xs = [x] ∧ x.tree = some (.dct ks ts) ∧ ql (ks.map keyW)
theorem x_listK (h : v sl fun xs => listKG ql xs) : wListK v sl ql := h
theorem x_listKv (h : ql (ks.map keyW)) : listKG ql [.val (.dct ks ts)] := ⟨_, ks, ts, rfl, rfl, h⟩
def itemsLG (ql : List T → Prop) (x : Sl) : Prop := ∃ ks ts, x.tree = some (.dct ks ts) ∧ ql (mkI ks ts)
theorem x_itemsL (h : a sl fun x => itemsLG ql x) : wItemsL a sl ql := h
theorem x_itemsLv (h : ql (mkI ks ts)) : itemsLG ql (.val (.dct ks ts)) := ⟨ks, ts, rfl, h⟩
theorem x_itemsLo (h : ql (mkI ks ts)) : itemsLG ql (.ownd l ks ts) := ⟨ks, ts, rfl, h⟩
def lenDG (P : Sl → Prop) (xs : List Sl) : Prop := ∃ x ks ts, xs = [x] ∧ x.tree = some (.dct ks ts) ∧ P (.val (.int (ks.length : Nat)))
theorem x_lenD (h : v sl fun xs => lenDG P xs) : wLenD v sl P := h
theorem x_lenDv (h : P (.val (.int (ks.length : Nat)))) : lenDG P [.val (.dct ks ts)] := ⟨_, ks, ts, rfl, rfl, h⟩
theorem x_notOD (e : nth sl i = .ownd l ks ts) (h : P (.val (.bl ks.isEmpty))) : wNotOD i sl P := ⟨l, ks, ts, e, h⟩
def dictMG (q : List Key → List T → Prop) (xs : List Sl) : Prop := ∃ x ts kvt, xs = [x] ∧ x.tree = some (.lst ts) ∧ pairsT ts = some kvt ∧ q (layK kvt [] []).1 (layK kvt [] []).2
theorem x_dictM (h : v sl fun xs => dictMG q xs) : wDictM v sl q := h
def dgG (b : WE) (sl : List Sl) (P : Sl → Prop) (x : Sl) : Prop := b sl fun y => ∃ ks ts u k t, x.tree = some (.dct ks ts) ∧ y = .val u ∧ keyT u = some k ∧ ((ks.zip ts).find? fun kv => decide (kv.1 = k)).map (·.2) = some t ∧ P (.val t)
theorem x_dget (h : a sl fun x => dgG b sl P x) : wDGet a b sl P := h
theorem x_parVD {w : WD} (h : a sl fun x => storable x = true ∧ w sl fun ks ts => ∀ l, f ((sl.set i x).set j (.ownd l ks ts))) : wParVD i j a w ⟨f, rt, bk, ct⟩ sl := h
theorem x_frzD {w : WS} (e : nth sl i = .ownd l ks ts) (h : w ⟨f, rt, bk, ct⟩ (sl.set i (.val (.dct ks ts)))) : wFrzD i w ⟨f, rt, bk, ct⟩ sl := ⟨l, ks, ts, e, h⟩
theorem x_dOne (h : a sl fun y => b sl fun z => ∃ u n d, y = .val u ∧ keyT u = some n ∧ z = .val d ∧ q [n] [d]) : wDOne a b sl q := h
/-! walks of a dict comprehension, by functions -/
end
end Tr


set_option Elab.async false
set_option linter.all false
set_option maxRecDepth 100000
/-! == and != of two dicts of data, both answers -/
namespace Tr
open PySem PySem.Spec PyProof.Rows L2
inductive HitsV (K : PySem.W.Frag) (H : Hp) (ls : List (Key × V)) : List (Key × V) → Bool → Prop
  | nil : HitsV K H ls [] true
  | miss {k : Key} {v : V} {r : List (Key × V)} : valV ls k = none → HitsV K H ls ((k, v) :: r) false
  | hit {k : Key} {v u : V} {d e : PyData} {r : List (Key × V)} {b : Bool} : valV ls k = some u → Dp K H v d → Dp K H u e → SeqAt.shaped d = true → SeqAt.shaped e = true → HitsV K H ls r b → HitsV K H ls ((k, v) :: r) (PyData.eqv d e && b)
def rEqDD (K : PySem.W.Frag) : R2 := fun x y H Q => ∃ a b ks ls r, x = .ref a ∧ y = .ref b ∧ Rd H a (.dK ks) ∧ Rd H b (.dK ls) ∧ HitsV K H ls ks r ∧ Q (.bl (ks.length == ls.length && r)) H
def rNeDD (K : PySem.W.Frag) : R2 := fun x y H Q => ∃ a b ks ls r, x = .ref a ∧ y = .ref b ∧ Rd H a (.dK ks) ∧ Rd H b (.dK ls) ∧ HitsV K H ls ks r ∧ Q (.bl (!(ks.length == ls.length && r))) H
section
variable {X : Cx} {pins : List (Addr × Obj)} {σ : L2.St} {H : Hp} {s : Shared}
theorem rd_dict (I : Inv X pins σ H s) {d : Addr} {kvs : List (Key × V)} (h : Rd H d (.dK kvs)) : ∃ vs, (d == sysModules) = false ∧ KV kvs vs ∧ s.heap.DictOf (mixKind X.prog X.w) d vs := by
  rcases h with h | ⟨o, h⟩
  · obtain ⟨_, y, vs, r, da⟩ := (show ObjOk X.prog X.w H s.heap d (.dK kvs) from I.hok d _ h)
    exact ⟨vs, y, r, da⟩
  · obtain ⟨y, _, _, _, ep, vs, _, _, r, da⟩ := Inv.frzK I h
    obtain ⟨o, es, h1, h2, h3, h4⟩ := da
    exact ⟨vs, y, r, o, es, ep, h1, h2, h3, h4⟩
end
/-! over trees -/
def eqDB : List Key → List T → List Key → List T → Bool
  | k :: ks, t :: ts, ls, us => (match getK ls us k with
    | some u => eqB t u
    | none => false) && eqDB ks ts ls us
  | _, _, _, _ => true
def eqDct : T → T → Option T
  | .dct ks ts, .dct ls us => if (ts.all shp && us.all shp) = true then some (.bl (ks.length == ls.length && eqDB ks ts ls us)) else none
  | _, _ => none
def neDct : T → T → Option T
  | .dct ks ts, .dct ls us => if (ts.all shp && us.all shp) = true then some (.bl (!(ks.length == ls.length && eqDB ks ts ls us))) else none
  | _, _ => none
section
variable [Tabl] {K : PySem.W.Frag} {A : Avoid} {H : Hp}
end
end Tr


set_option Elab.async false
set_option linter.all false
set_option maxRecDepth 100000
set_option maxHeartbeats 0
/-! Own exception classes over any built-in one, whose __init__ hands a text on and sets one field -/
namespace L2
open PySem PySem.Spec PyProof.Rows
/-- what a built-in exception class is, as own ones are made over it -/
structure ExB (B : String) (bmB : List Value) (newId initId : String) : Prop where
  base : ExcBaseFacts B newId initId bmB
  store : StoreFacts B bmB "object.__setattr__" "object"
  typ : typeOf (.type B) = pure (.type "type")
  stub : Manifest.isStub B = false
  hand : PySem.W.handedIn (.builtin initId) = true
structure OexG (K : PySem.W.Frag) (C : Addr) (bmB : List Value) (newId : String) : Prop where
  obj : PySem.W.excInitIn K C bmB newId = true
  ovr : PySem.W.excOver K C bmB = true
  dic : PySem.W.hasDictIn K C = true
  sa : PySem.W.findIn K (.ref C) "__setattr__" = some (some (.builtin "object.__setattr__"))
  exC : PySem.W.subIn K (.ref C) (.type "BaseException") = some true
  tyC : PySem.W.typeIn K (.ref C) = some (.type "type")
  kC : PySem.W.keepIn K (.ref C) = true
section
variable {X : Cx} {pins : List (Addr × Obj)} {σ : St} {H : Hp} {s : Shared} {a C : Addr} {f : Str} {y : V} {u : Value} {Q : Unit → Shared → Prop} {E : Value → Shared → Prop} {A : Around} {B newId initId : String} {bmB : List Value}
theorem exo_un {fs : List Addr} {dx : Addr} {hp h' : Heap} (I : HOk X.prog X.w H hp) (e : H a = some (exo a C none)) (hnd : H dx = none) (dn : hp.objs.size ≤ dx) (keep : ∀ b o, b ≠ a → hp.get? b = some o → h'.get? b = some o) (there : ∃ o, h'.get? a = some o) :
    Un fs [] H (upd (upd H dx (exd dx [(f, y)])) a (exo a C (some dx))) hp h' := by
  have apart : ∀ {b : Addr}, H b = none → b ≠ a := fun {b} n z => by
    rw [z, e] at n
    cases n
  have old : ∀ {b : Addr} {o : Obj}, hp.get? b = some o → b ≠ dx := fun {b o} q => Nat.ne_of_lt (Nat.lt_of_lt_of_le (Heap.lt_size q) dn)
  constructor
  · intro b o q n _ _
    exact keep b o (apart n) q
  · intro b o q n _ _
    exact ⟨o.slots, keep b o (apart n) q⟩
  · intro b o q n _
    rw [upd_ne (apart n), upd_ne (old q)]
    exact n
  · intro b o q _
    by_cases hb : b = a
    · rw [hb]; exact there
    · exact ⟨o, keep b o hb q⟩
  · intro b xs q
    rw [upd_ne (at_ne e q exo_tup), upd_ne (ne_of_none q hnd)]
    exact q
  · intro b o v q
    rw [upd_ne (at_ne e q exo_frz), upd_ne (ne_of_none q hnd)]
    exact q
  · intro b ps q
    refine ⟨#[], ?_⟩
    rw [upd_ne (at_ne e q exo_tbl), upd_ne (ne_of_none q hnd), q]
    simp
/-- self.f = y, the first field of an exception that is being made -/
theorem ost_first (BB : ExB B bmB newId initId) (T : OexG X.K C bmB newId) (I : Inv X pins σ H s) (e : H a = some (exo a C none)) (tk : PySem.W.takerIn X.K C f = some none) (ry : RelV y u)
    (go : ∀ dx s', H dx = none → dx ≠ a → Inv X pins σ (upd (upd H dx (exd dx [(f, y)])) a (exo a C (some dx))) s' → Q () s') : wpAny (model X.prog X.w) A (setAttr (.ref a) f u) Q E s := by
  obtain ⟨t1, ho⟩ := exo_at I.hok e
  obtain ⟨cd, hcd, hdict⟩ := PySem.W.any_some T.dic
  obtain ⟨hp, g, d, t, os⟩ := s
  refine PySem.W.set_plain I.kIn (od := none) ⟨ho, rfl, rfl, trivial⟩ T.sa (PySem.W.osa_openX (od := none) BB.store I.kIn ⟨ho, rfl, rfl, trivial⟩ T.ovr tk fun b => ?_)
  refine wpAny_bind (wpAny_pure (wpAny_bind (PySem.W.instanceDict_exc (t := t1) (c2 := .none) ho (PySem.W.looks_clsIn I.kIn hcd) hdict ?_)))
  show wpAny _ _ (PySem.Builtin.ObjectAttr.storeInDict hp.objs.size _ f u) _ _ _
  have alt : a ≠ hp.objs.size := Nat.ne_of_lt (Heap.lt_size ho)
  refine PySem.HandSPX.store_in_new ⟨_, #[], _, (Heap.get?_update_ne _ _ _ _ alt.symm).trans (Heap.get?_push_at rfl rfl), rfl, fun e he => absurd he (by simp), fun _ => rfl⟩ fun h' tk' hn sb => ?_
  have hnd : H hp.objs.size = none := I.hok.fresh (Nat.le_refl _)
  have h1 : (hp.push (PySem.W.dictOf [] 0)).get? a = some _ := Heap.get?_push_of_some _ ho
  have keep : ∀ c o, c ≠ a → hp.get? c = some o → h'.get? c = some o := fun c o hc ho => (sb.2 c (Nat.ne_of_lt (Heap.lt_size ho))).trans ((Heap.get?_update_ne _ _ _ _ hc).trans (Heap.get?_push_of_some _ ho))
  have hx : h'.get? a = some ({ cls := .ref C, dict := some hp.objs.size, data := .fields #[.ref t1, .none, .none, .none, .bool false, .none] } : Obj) := (sb.2 a alt).trans (Heap.get?_update_self _ h1 rfl)
  refine go hp.objs.size _ hnd alt.symm (I.un (t' := tk') (exo_un I.hok e hnd (Nat.le_refl _) keep ⟨_, hx⟩) fun c o q => ?_)
  by_cases hc : c = a
  · subst hc
    rw [upd_same] at q
    cases q
    exact exo_ok hx
  · rw [upd_ne hc] at q
    by_cases hd : c = hp.objs.size
    · subst hd
      rw [upd_same] at q
      cases q
      exact exd_ok hn (relO_put (fs := []) ry fun g => True.intro)
    · rw [upd_ne hd] at q
      refine (I.hok c o q).stay (fun c1 v hc1 z => keep c1 v ?_ z) (fun c1 hc1 => ?_) fun c1 xs hc1 => ?_
      · exact hc1.elim (fun w => by rw [w]; exact hc) fun w => at_ne e w exo_own
      · rw [upd_ne (at_ne e hc1 exo_own), upd_ne (ne_of_none hc1 hnd)]
        exact hc1
      · rw [upd_ne (at_ne e hc1 exo_tup), upd_ne (ne_of_none hc1 hnd)]
        exact hc1
/-- B.__init__(self, ..) -/
theorem binit_ok {us : List Value} {Q : Value → Shared → Prop} (BB : ExB B bmB newId initId) (T : OexG X.K C bmB newId) (I : Inv X pins σ H s) (e : H a = some (exo a C none)) (hl : us.length ≤ sizeLine) (go : ∀ s', Inv X pins σ H s' → Q .none s') :
    wpAny (model X.prog X.w) A (call (.builtin initId) (.ref a :: us)) Q E s := by
  obtain ⟨nm, N, qn, bs, bm, hdct, sn, sub, ab, col, dd, k0, k1, k2, k3, k5, hC, hT⟩ := PySem.W.excInit_of I.kIn T.obj
  obtain ⟨t1, ho⟩ := exo_at I.hok e
  obtain ⟨hp, g, d, t, os⟩ := s
  refine wpAny_call (PySem.HandSPX.init_base BB.base hT hC ho hl fun h' t2 k hx => ?_)
  have J := I.write (t' := t) (x := a) (e := a) (o := exo a C none) (by rw [e]; exact True.intro) (.inl rfl) k ⟨_, hx⟩ (exo_ok hx)
  have same : upd H a (exo a C none) = H := funext fun b => by
    by_cases hb : b = a
    · rw [hb, upd_same, e]
    · exact upd_ne hb
  exact go _ (same ▸ J)
end
/-! readings -/
def tBi (K : PySem.W.Frag) (bmB : List Value) (newId : String) (ta : TA) : TE := fun σ H Q => ta σ H fun vs H1 => ∃ (a C : Addr) (ws : List V), vs = .ref a :: ws ∧ ws.length ≤ 1000 ∧ OexG K C bmB newId ∧ H1 a = some (exo a C none) ∧ Q .non H1
def tOs1 (K : PySem.W.Frag) (bmB : List Value) (newId : String) (f : Str) (to te : TE) : TS := fun D σ H => te σ H fun y H1 => to σ H1 fun x H2 => ∃ a C : Addr, x = .ref a ∧ OexG K C bmB newId ∧ PySem.W.takerIn K C f = some none ∧ H2 a = some (exo a C none) ∧
  ∀ dx, H2 dx = none → dx ≠ a → D.nx σ (upd (upd H2 dx (exd dx [(f, y)])) a (exo a C (some dx)))
section
variable {X : Cx} {o e : Expr} {es : List Expr} {to te : TE} {ta : TA} {f : Str} {p p' p1 p2 pos : Pos} {B newId initId : String} {bmB : List Value}
theorem pe_binit {x : Str} {pl : Sem Bool} (BB : ExB B bmB newId initId) (hg : Gl X x) (hm : X.mg x = none) (hv : bootBuiltins x = some (.type B)) (vV : PySem.W.findCls X.K (.type B) (.type "type") "__init__" = some (.val (.builtin initId))) (ha : PA X (e :: es) ta)
    (hn : x ≠ "__name__" := by decide) (hdb : (x == ("__debug__" : Str)) = false := by decide)
    (hc : eval (.Call (.Attribute (.Name x p1) "__init__" p2) (e :: es) [] pos) X.env = (do
      let ov ← eval (.Name x p1) X.env
      standAt p2.atName
      let (f, first) ← holding [ov] (getMethod ov "__init__" pl)
      callWith pos f first (backTo pos (starEach (e :: es) X.env)) (backToKw pos (keywordEach [] X.env))) := by rfl)
    (he : starEach (e :: es) X.env = (false, eval e X.env) :: starEach es X.env := by rfl) (hpl : (backTo pos (starEach es X.env)).any (·.1) = false := by rfl) :
    PE X (.Call (.Attribute (.Name x p1) "__init__" p2) (e :: es) [] pos) (tBi X.K bmB newId ta) := by
  refine ⟨fun pins s σ H Q I h => PySem.W.methodCall_KW (ld_blt I hg hm hv ?_ hn hdb) hc⟩
  obtain ⟨m, fr⟩ := I.fr
  refine PySem.W.method_type fr I.ok.mod.kin BB.typ BB.stub vV BB.hand ?_
  show wpAny _ _ (callWith pos (Value.builtin initId) [] _ []) _ _ _
  refine PyProof.Rows.callWith_method1 (thn (ha.run pos pins _ σ H _ (I.tok _) h) fun us s1 got => ?_) he hpl
  obtain ⟨vs, H1, I1, r1, a, C, ws, rfl, hl, T, ea, q⟩ := got
  cases r1 with
  | cons ra rw' =>
    cases ra
    refine binit_ok BB T I1 ea ?_ fun s' J => ⟨.non, H1, J, rfl, q⟩
    rw [← Paired.length rw', sizeLine_eq]
    omega
theorem ps_os1 (BB : ExB B bmB newId initId) (ho : PE X o to) (he : PE X e te) (hs : swapsWith e (some (.Attribute o f p')) pos.line X.env = pure false := by rfl) : PS X (.Assign [.Attribute o f p'] e pos) (tOs1 X.K bmB newId f to te) := by
  refine ⟨fun pins s σ H D I h => plainObj_wpAny_Assign_Attribute (thn (he.run pins s σ H _ I h) fun v s1 got => ?_) hs⟩
  obtain ⟨y, H1, I1, r1, q1⟩ := got
  refine thn (ho.run pins s1 σ H1 _ I1 q1) fun u s2 got => ?_
  obtain ⟨x, H2, I2, r2, a, C, rfl, T, tk, ea, q⟩ := got
  cases r2
  exact ost_first BB T I2 ea tk r1 fun dx s' n ne J => ⟨σ, _, J, q dx n ne⟩
/-- C(e, ..), made -/
theorem pmk_any {CX : CXT} {x : Str} {C fI : Addr} {k : Nat} {fd : FuncData} {ps : List Str} {sp : Sp} {ds : List Value} {dvs : List V} (BB : ExB B bmB newId initId) (T : OexG X.K C bmB newId) (iC : PySem.W.findIn X.K (.ref C) "__init__" = some (some (.ref fI))) (tI : PySem.W.typeIn X.K (.ref fI) = some (.type "function"))
    (G : FnOk X.prog X.w X.K X.mg X.base CX k fI fd ps sp) (hr : Room (k + 1) X.A) (hb : Binds X.K fd ps ds) (hd : Vals dvs ds) (hx : Passes CX X (fun _ _ _ => False)) (hg : Gl X x) (hm : X.mg x = some (.ref C)) (ha : PA X (e :: es) ta)
    (hdb : (x == ("__debug__" : Str)) = false := by decide) (he : starEach (e :: es) X.env = (false, eval e X.env) :: starEach es X.env := by rfl) (hpl : (backTo pos (starEach es X.env)).any (·.1) = false := by rfl) :
    PMk X (.Call (.Name x p) (e :: es) [] pos) (tMkO C sp dvs ta) := fun pins s σ H Q I h => by
  refine wpAny_Call_Name_kw (ld_glob I hg hm (PySem.W.callWith_K (h₀ := X.base) I.ok.mod.kin T.kC (thn (ha.run pos pins s σ H _ I h) fun us s1 got => ?_) he hpl) hdb)
  obtain ⟨vs, H1, I1, r1, hz, q1⟩ := got
  refine ⟨I1.kIn, ?_⟩
  show wpAny _ _ (call (.ref C) us) _ _ _
  obtain ⟨nm, N, qn, bs, bm, hdct, sn, sub, ab, col, dd, k0, k1, k2, k3, k5, hC, hT⟩ := PySem.W.excInit_of I1.kIn T.obj
  obtain ⟨hp, g, dr, tk, os⟩ := s1
  have fresh : H1 (hp.objs.size + 1) = none := I1.hok.fresh (Nat.le_succ _)
  have want := q1 _ fresh
  have later : ∀ b o, hp.get? b = some o → ((hp.push (PySem.W.kdv_tup us)).push (PySem.HandSPX.excO C hp.objs.size)).get? b = some o := fun b o e => Heap.get?_push_of_some _ (Heap.get?_push_of_some _ e)
  have new : ((hp.push (PySem.W.kdv_tup us)).push (PySem.HandSPX.excO C hp.objs.size)).get? (hp.objs.size + 1) = some (PySem.HandSPX.excO C hp.objs.size) := by heap_get
  have J := I1.laid (t' := tk) (a := hp.objs.size + 1) (o := exo (hp.objs.size + 1) C none) later (Nat.le_succ _) (exo_ok new)
  have rv : Vals (V.ref (hp.objs.size + 1) :: (vs ++ dvs)) (Value.ref (hp.objs.size + 1) :: (us ++ ds)) := .cons rfl (r1.append hd)
  have many : (Value.ref (hp.objs.size + 1) :: us ++ ds).length = ps.length := by
    have e := rv.length
    rw [G.len _ _ _ _ want] at e
    exact e.symm
  have few : us.length ≤ sizeLine := by
    rw [← Paired.length r1, sizeLine_eq]
    omega
  refine wpAny_call (PySem.HandSPX.call_own BB.base hT hC (PySem.W.looks_findIn I1.kIn iC) (fun self => PySem.W.bind_fn I1.kIn self tI) few ?_)
  refine codeAny_mono (G.run _ X.stack _ _ ⟨_, []⟩ _ _ _ (fun _ _ _ => False) (hr.make C us []) (J.env0.make C us []) (hb _ (Value.ref (hp.objs.size + 1) :: us) J.kIn many) rv want) fun r s' got => ?_
  match r, got with
  | .error er, got => exact hx pins σ _ _ er s' J got
  | .ok (.ret u), got =>
    obtain ⟨v, H2, os2, bare2, un2, hok2, ru, rfl, d, fs, ea, ed, hd1, q2⟩ := got
    obtain ⟨h2, g2, d2, t2, os'⟩ := s'
    exact ⟨ru, mk_end (raises_own T.exC T.tyC) I1 (Nat.le_succ _) later un2 hok2 os2 bare2 ea ed hd1 q2⟩
end
end L2


set_option Elab.async false
set_option linter.all false
set_option maxRecDepth 100000
set_option maxHeartbeats 0
/-! raise C(e), C of one's own with one field -/
namespace Tr
open PySem PySem.Spec PyProof.Rows L2
variable [Tabl]
abbrev bmIndexError : List Value := [.type "IndexError", .type "LookupError", .type "Exception", .type "BaseException", .type "object"]
abbrev bmOverflowError : List Value := [.type "OverflowError", .type "ArithmeticError", .type "Exception", .type "BaseException", .type "object"]
abbrev bmArithmeticError : List Value := [.type "ArithmeticError", .type "Exception", .type "BaseException", .type "object"]
theorem exbIndexError : ExB "IndexError" bmIndexError "IndexError.__new__" "IndexError.__init__" := ⟨PySem.F.excBase_IndexError, PySem.F.store_IndexError, by kernel_rfl, by decide +kernel, by decide +kernel⟩
theorem exbArithmeticError : ExB "ArithmeticError" bmArithmeticError "ArithmeticError.__new__" "ArithmeticError.__init__" := ⟨PySem.F.excBase_ArithmeticError, PySem.F.store_ArithmeticError, by kernel_rfl, by decide +kernel, by decide +kernel⟩
/-- what its __init__ promises: the field is set -/
def spE (C : Addr) (f : Str) : Sp := fun vs H Q _ => ∃ a y, vs = [.ref a, y] ∧ H a = some (exo a C none) ∧ ∀ dx, H dx = none → dx ≠ a → Q .non (upd (upd H dx (exd dx [(f, y)])) a (exo a C (some dx)))
section
variable {P : Program} {w : World} {K : PySem.W.Frag} {mg : Str → Option Value} {base : Heap} {qual f : Str} {params : Arguments} {body : List Stmt} {scope : Scope} {dvs : List V} {kws : List (Str × V)} {fI C : Addr} {fd : FuncData} {N : List Str} {B newId initId : String} {bmB : List Value} {m : Str}
theorem fn_exc (F : FunD K "__init__" qual params body scope [] kws fI fd) (T : OexG K C bmB newId) (tk : PySem.W.takerIn K C f = some none) (S : FnScope ["self", f] ["self", f] scope)
    (hb : ∀ (cdv : Value) (A : Around) (outer : List Env) (s : Shared) (H : Hp) (E : XK), PSs (cxOf CX0 P w K mg base ["self", f] qual scope fI cdv A outer s H E) body (tSeq (tDrop (tBi K bmB newId (tCons (tVar 0) (tCons (tC (.str m)) tNil)))) (tOs1 K bmB newId f (tVar 0) (tVar 1)))) :
    FnOk P w K mg base CX0 1 fI fd ["self", f] (spE C f) := by
  refine F.ok S (fun vs H Q E h => ?_) fun cdv A outer s H vs Q E hr h => ⟨_, hb cdv A outer s H E, ?_⟩
  · obtain ⟨a, y, rfl, _⟩ := h
    rfl
  · obtain ⟨a, y, rfl, ha, q⟩ := h
    exact ⟨.ref a, rfl, ⟨a, C, [.str m], rfl, Nat.le_of_ble_eq_true rfl, T, ha, y, rfl, .ref a, rfl, a, C, rfl, T, tk, ha, q⟩⟩
/-- what the head tells of such a class -/
def oexB (c f B : String) (bmB : List Value) (newId initId : String) (K : PySem.W.Frag) : Bool :=
  PySem.W.excInitIn K (He.ga K c) bmB newId && (PySem.W.excOver K (He.ga K c) bmB && (PySem.W.hasDictIn K (He.ga K c) && (decide (PySem.W.findIn K (.ref (He.ga K c)) "__setattr__" = some (some (.builtin "object.__setattr__"))) && (decide (PySem.W.subIn K (.ref (He.ga K c)) (.type "BaseException") = some true) &&
  (decide (PySem.W.typeIn K (.ref (He.ga K c)) = some (.type "type")) && (PySem.W.keepIn K (.ref (He.ga K c)) && (decide (PySem.W.takerIn K (He.ga K c) f = some none) && (decide (PySem.W.findIn K (.ref (He.ga K c)) "__init__" = some (some (.ref (He.fAd K (c, some "__init__"))))) &&
  (decide (PySem.W.typeIn K (.ref (He.fAd K (c, some "__init__"))) = some (.type "function")) && (match PySem.W.findCls K (.type B) (.type "type") "__init__" with
    | some (.val (.builtin t)) => decide (t = initId)
    | _ => false))))))))))
structure OexF (c f B : String) (bmB : List Value) (newId initId : String) (K : PySem.W.Frag) : Prop where
  g : OexG K (He.ga K c) bmB newId
  t : PySem.W.takerIn K (He.ga K c) f = some none
  i : PySem.W.findIn K (.ref (He.ga K c)) "__init__" = some (some (.ref (He.fAd K (c, some "__init__"))))
  f : PySem.W.typeIn K (.ref (He.fAd K (c, some "__init__"))) = some (.type "function")
  v : PySem.W.findCls K (.type B) (.type "type") "__init__" = some (.val (.builtin initId))
theorem oexB_ok {c f B : String} {bmB : List Value} {newId initId : String} {K : PySem.W.Frag} (h : oexB c f B bmB newId initId K = true) : OexF c f B bmB newId initId K := by
  unfold oexB at h
  simp only [Bool.and_eq_true, decide_eq_true_eq] at h
  obtain ⟨h1, h2, h3, h4, h5, h6, h7, h8, h9, h10, h11⟩ := h
  refine ⟨⟨h1, h2, h3, h4, h5, h6, h7⟩, h8, h9, h10, ?_⟩
  split at h11
  · rename_i e
    rw [e, of_decide_eq_true h11]
  · cases h11
/-- an own exception class, as it is raised: its field -/
def ExI (P : Program) (w : World) (K : PySem.W.Frag) (mg : Str → Option Value) (base : Heap) (x : Str) (C : Addr) (f : Str) : Prop :=
  ∃ (bmB : List Value) (B newId initId : String) (fI : Addr) (fd : FuncData) (ps : List Str), ExB B bmB newId initId ∧ OexG K C bmB newId ∧ PySem.W.findIn K (.ref C) "__init__" = some (some (.ref fI)) ∧ PySem.W.typeIn K (.ref fI) = some (.type "function") ∧ FnOk P w K mg base CX0 1 fI fd ps (spE C f) ∧ Binds K fd ps [] ∧ mg x = some (.ref C)
end
section
variable {X : Cx} {W : L2.WX} {C : Addr} {f : Str}
theorem exc_heap {H : Hp} {a dx : Addr} {o1 o2 o3 : HO} {y : HO} (ha : H a = none) (hne : dx ≠ a) : upd (del (upd (upd (upd H a o1) dx o2) a o3) a) dx y = upd H dx y := by
  funext b
  by_cases h1 : b = dx
  · rw [h1, upd_same, upd_same]
  · rw [upd_ne h1, upd_ne h1]
    by_cases h2 : b = a
    · rw [h2, del_same, ha]
    · rw [del_ne h2, upd_ne h2, upd_ne h1, upd_ne h2]
def xRaiseF (C : Addr) (f : Str) (a : WA) : WSX := fun R _ sl => a sl fun xs => ∃ t, xs = [.val t] ∧ R (.ref C) (some (f, t)) sl
theorem gx_raiseF {j : Nat} {x : Str} {e : Expr} {a : WA} {p pos pos' : Pos} (hc : X.calm = true) (tk : Takes X W) (d : ExI X.prog X.w X.K X.mg X.base x C f) (hr : Room j X.A) (hg : Gl X x) (ha : GA X [e] a) (hj : 2 ≤ j := by decide) (hdb : (x == ("__debug__" : Str)) = false := by decide)
    (he : starEach [e] X.env = (false, eval e X.env) :: starEach [] X.env := by rfl) (hpl : (backTo pos (starEach [] X.env)).any (·.1) = false := by rfl) :
    GSX X W (.Raise (some (.Call (.Name x p) [e] [] pos)) none pos') (xRaiseF C f a) := by
  obtain ⟨bmB, B, newId, initId, fI, fd, ps, BB, T, iC, tI, G, hb, hm⟩ := d
  refine gx_of (ps_raise hc tk (pmk_any BB T iC tI G (hr.mono hj) hb .nil pass0 hg hm ha hdb he hpl)) fun E σ H ⟨F, D, A, sl, k, R, S, hw, _, _, _, _, q5⟩ => ⟨F, D, A, sl, _, S, hw, fun vs H1 xs b1 oks hx => ?_⟩
  obtain ⟨t, rfl, hr⟩ := hx
  have S1 := S.beh b1
  cases oks with
  | cons ok rest =>
    rename_i v vs
    cases rest
    have r : Rep X.K A H1 v t := ok
    refine ⟨by simp, fun b hb => ⟨b, v, rfl, upd_same, fun dx hdx hne => ⟨rfl, dx, [(f, v)], upd_same, by rw [upd_ne hne, upd_same], ?_, ?_⟩⟩⟩
    · rwa [upd_ne hne] at hdx
    · rw [upd_ne hne] at hdx
      rw [exc_heap hb hne]
      exact q5 D A _ σ sl _ (some dx) (some (f, t)) (S1.beh (Beh.of_ext S1 (Ext.new hdx))) ⟨dx, v, rfl, fresh_notin S1.alive hdx, upd_same, r.mono (Ext.new hdx)⟩ hr
end
end Tr


set_option Elab.async false
set_option linter.all false
set_option maxRecDepth 100000
set_option maxHeartbeats 0
/-! try with several clauses, some of which name the exception -/
namespace L2
open PySem PySem.Spec PyProof.Rows
abbrev Clause := Value × Option Nat × (Addr → Value → Option Addr → TS)
/-- behind a clause that names the exception the name is gone -/
def Ends.gone (i : Nat) (D : Ends) : Ends where
  nx := fun σ H => D.nx (σ.set i none) H
  rt := D.rt
  bk := fun σ H => D.bk (σ.set i none) H
  ct := fun σ H => D.ct (σ.set i none) H
/-- what a suite is asked -/
def inClause (ts : Addr → Value → Option Addr → TS) (cls : Value) (d : Option Addr) (D : Ends) (σ : St) (H : Hp) (a : Addr) : Option Nat → Prop
  | none => ts a cls d D σ H
  | some i => ts a cls d (D.gone i) (σ.set i (some (.ref a))) H
def wMix (K : PySem.W.Frag) (n : Nat) (Wout : WX) (D : Ends) : List Clause → WX
  | [] => Wout
  | (c, i, ts) :: r => fun cls d σ H => ∃ hit, PySem.W.exmOne K cls c = some hit ∧ (hit = true → ∀ a, H a = none → σ.length = n → inClause ts cls d D σ H a i) ∧ (hit = false → wMix K n Wout D r cls d σ H)
inductive Clauses (X : Cx) : List ExceptHandler → List Clause → Prop
  | nil : Clauses X [] []
  | bare {x : Str} {c : Value} {ts : Addr → Value → Option Addr → TS} {b : Stmt} {bs : List Stmt} {p q : Pos} {hds : List ExceptHandler} {l : List Clause} (nm : Names X x c)
      (run : ∀ (a : Addr) (oe : Obj) (cls : Value) (d : Option Addr) (pn : List (Addr × Obj)), Zc cls d oe → (∃ vs, oe.data = .fields vs) → PSs (X.suite a ((a, oe) :: pn)) (b :: bs) (ts a cls d)) (more : Clauses X hds l) :
      Clauses X (.ExceptHandler (some (.Name x p)) none (b :: bs) q :: hds) ((c, none, ts) :: l)
  | as {x n : Str} {i : Nat} {c : Value} {ts : Addr → Value → Option Addr → TS} {b : Stmt} {bs : List Stmt} {p q : Pos} {hds : List ExceptHandler} {l : List Clause} (nm : Names X x c) (at_ : X.N[i]? = some n) (loc : X.env.kindOf n = some .local)
      (run : ∀ (a : Addr) (oe : Obj) (cls : Value) (d : Option Addr) (pn : List (Addr × Obj)), Zc cls d oe → (∃ vs, oe.data = .fields vs) → PSs (X.suite a ((a, oe) :: pn)) (b :: bs) (ts a cls d)) (more : Clauses X hds l) :
      Clauses X (.ExceptHandler (some (.Name x p)) (some n) (b :: bs) q :: hds) ((c, some i, ts) :: l)
section
variable {X : Cx} {body : List Stmt} {hd : ExceptHandler} {hds : List ExceptHandler} {l : List Clause} {pos : Pos} {tb : WX → TS} {Wout : WX}
theorem ps_try_mix (stk : X.stack = X.env :: X.outer) (frm : X.env.frame = some X.env.locals) (nd : X.N.Nodup) (tk : Takes X Wout)
    (walk : ∀ (W : WX) (pn : List (Addr × Obj)) (xe : Value → Shared → Prop), Takes (X.tr pn xe) W → PassesOwn (model X.prog X.w) X.A X.env xe → PSs (X.tr pn xe) body (tb W))
    (cl : Clauses X (hd :: hds) l) : PS X (.Try body (hd :: hds) [] [] pos) (fun D σ H => tb (wMix X.K X.N.length Wout D l) D σ H) := by
  constructor
  intro pins s σ H D I want
  have good := I.ok
  have frames : X.A.frames = some (X.env :: X.outer) := good.frames.trans (congrArg some stk)
  refine wpAny_Try_except (wpAny_mono ((walk (wMix X.K X.N.length Wout D l) (X.pn ++ pins) (fun v t₁ => wpAny (model X.prog X.w) X.A (noteFrame v X.env) (fun _ t₂ => wpAny (model X.prog X.w) X.A (setFlight v none)
    (fun _ t₃ => wpAny (model X.prog X.w) X.A (handleBy v X.env (hd :: hds)) (SP X pins D) X.xe t₃) X.xe t₂) X.xe t₁) (fun u s' got => ?_) PassesOwn.looking).run [] s σ H D (I.toTry _) want) (fun fl s1 got => ?_) fun _ _ z => z)
  · obtain ⟨a, B, sI, pins', σ', H', cls, d, rfl, J', nb, up, sky, na, os, ag, w⟩ := got
    have J : Inv X pins σ' H' sI := J'.ofTry good
    have sky1 : Sky B (X.env :: X.outer) a (Zc cls d) X.env.locals s'.heap := by rw [← stk]; exact sky
    show wpAny (model X.prog X.w) X.A (noteFrame (.ref a) X.env) _ _ _
    refine Sky.land Zc.steady frames frm sky1 fun hA flA upA => ?_
    have JA : Inv X pins σ' H' { s' with heap := hA } := J.landed nb flA.1 (up.trans upA) os ag
    obtain ⟨oA, vA, eA, zA, dA⟩ := flA.there
    have apart : a ∉ frs (X.env :: X.outer) := fun hm => by
      obtain ⟨_, o2, e2, hn⟩ := flA.2.2.1.mem hm
      rw [eA] at e2; cases e2
      exact hn _ dA
    have nL : a ≠ X.env.locals := fun z => apart (List.mem_filterMap.mpr ⟨X.env, List.mem_cons_self, by rw [frm, z]⟩)
    have nF : a ∉ X.fs := fun hm => by
      obtain ⟨e, he, q⟩ := List.mem_filterMap.mp hm
      exact apart (List.mem_filterMap.mpr ⟨e, List.mem_cons_of_mem _ he, q⟩)
    have SA := JA.suite eA dA na nL nF
    have look : ∀ {x : Str} {c : Value} {p : Pos} {Q : Value → Shared → Prop} {E : Value → Shared → Prop}, Names X x c → Q c { s' with heap := hA } → wpAny (model X.prog X.w) (X.A.mark (some (.ref a))) (eval (.Name x p) X.env) Q E { s' with heap := hA } := by
      intro x c p Q E nm q
      obtain ⟨g, db, hm | ⟨hm, hv, hn⟩⟩ := nm
      · exact ld_glob (X := X.suite a ((a, oA) :: (X.pn ++ pins))) SA g hm q db
      · exact ld_blt (X := X.suite a ((a, oA) :: (X.pn ++ pins))) SA g hm hv q hn db
    have type : PySem.W.Looks (model X.prog X.w) hA (typeOf (.ref a)) cls := fun A Q E s k q => wpAny_typeOf_ref (k _ _ eA) (by rw [zA.1]; exact q)
    have len : σ'.length = X.N.length := J.len
    have go : ∀ {hs : List ExceptHandler} {m : List Clause}, Clauses X hs m → wMix X.K X.N.length Wout D m cls d σ' H' → wpAny (model X.prog X.w) X.A (handleBy (.ref a) X.env hs) (SP X pins D) X.xe { s' with heap := hA } := by
      intro hs m hk
      induction hk with
      | nil =>
        intro out
        apply wpAny_handleBy_nil
        obtain ⟨_, _, _, oe, vs, T, oT, ts', he, hz, hdd, h1, hr⟩ := id flA
        unfold PySem.passOn
        refine wpAny_bind (wpAny_field he hdd h1 ?_)
        rw [if_neg (show (Value.ref T == Value.none) ≠ true from by simp)]
        have last : wpAny (model X.prog X.w) X.A (setFlight (.ref a) X.env.frame) (fun _ t4 => wpAny (model X.prog X.w) X.A (throw (.ref a) : Sem Flow) (SP X pins D) X.xe t4) X.xe { s' with heap := hA } := by
          rw [frm]
          refine HandSPX.setFlight_upZ flA fun hB flB upB => wpAny_throw (tk _ _ ⟨a, B, sI, pins, σ', H', cls, d, rfl, J, nb, (up.trans upA).trans upB, .inr (.inr ?_), na, os, ag, out⟩)
          rw [stk]; exact flB
        first
          | exact wpAny_bind last
          | exact wpAny_bind (wpAny_pure (wpAny_bind last))
      | @bare x c ts b bs p q hs2 m2 nm run more ih =>
        rintro ⟨hit, e1, yes, no⟩
        refine wpAny_handleBy_cons (codeAny_handlers_test (look nm ((PySem.W.exm_one (M := model X.prog X.w) JA.kIn type e1).here ?_))) (fun z => by cases z)
        cases hit with
        | false => exact ih (no rfl)
        | true =>
          refine codeAny_handlers_suite (HandSPX.lands_againZ flA fun hB flB upB => ?_)
          have JB : Inv X pins σ' H' { s' with heap := hB } := J.landed nb flB.1 ((up.trans upA).trans upB) os ag
          obtain ⟨oB, vB, eB, zB, dB⟩ := flB.there
          refine wpAny_mono ((run a oB cls d (X.pn ++ pins) zB ⟨_, dB⟩).run [] _ _ H' _ (JB.suite eB dB na nL nF) (yes rfl a na len)) (fun fl t got => ?_) fun _ _ z => z.elim
          match fl, got with
          | .next, ⟨σ6, H6, S6, q6⟩ => exact ⟨_, _, S6.unsuite good, q6⟩
          | .brk, ⟨σ6, H6, S6, q6⟩ => exact ⟨_, _, S6.unsuite good, q6⟩
          | .cont, ⟨σ6, H6, S6, q6⟩ => exact ⟨_, _, S6.unsuite good, q6⟩
          | .ret u, ⟨v6, σ6, H6, S6, r6, q6⟩ => exact ⟨_, _, _, S6.unsuite good, r6, q6⟩
      | @as x n i c ts b bs p q hs2 m2 nm at_ loc run more ih =>
        rintro ⟨hit, e1, yes, no⟩
        refine wpAny_handleBy_cons (codeAny_handlers_test (look nm ((PySem.W.exm_one (M := model X.prog X.w) JA.kIn type e1).here ?_))) (fun z => by cases z)
        cases hit with
        | false => exact ih (no rfl)
        | true =>
          refine codeAny_handlers_suite_as (HandSPX.lands_againZ flA fun hB flB upB => ?_)
          have JB : Inv X pins σ' H' { s' with heap := hB } := J.landed nb flB.1 ((up.trans upA).trans upB) os ag
          obtain ⟨oB, vB, eB, zB, dB⟩ := flB.there
          refine store_ok (X := X.suite a ((a, oB) :: (X.pn ++ pins))) (v := .ref a) (JB.suite eB dB na nL nF) nd at_ (.inl loc) rfl (fun t5 S5 => ?_) (.inr loc)
          refine wpAny_mono ((run a oB cls d (X.pn ++ pins) zB ⟨_, dB⟩).run [] t5 _ H' _ S5 (yes rfl a na len)) (fun fl t got => ?_) fun _ _ z => z.elim
          have away : ∀ {σ6 : St} {H6 : Hp} {Q : Shared → Prop}, Inv (X.suite a ((a, oB) :: (X.pn ++ pins))) [] σ6 H6 t → (∀ t7, Inv X pins (σ6.set i none) H6 t7 → Q t7) →
              wpAny (model X.prog X.w) X.A (do bindName X.env n .none; unbindBehindTheSuite X.env n q) (fun _ t7 => Q t7) X.xe t := fun S6 hq => gone_ok (S6.unsuite good) nd at_ loc hq
          match fl, got with
          | .next, ⟨σ6, H6, S6, q6⟩ => exact away S6 fun t7 J7 => ⟨_, _, J7, q6⟩
          | .brk, ⟨σ6, H6, S6, q6⟩ => exact away S6 fun t7 J7 => ⟨_, _, J7, q6⟩
          | .cont, ⟨σ6, H6, S6, q6⟩ => exact away S6 fun t7 J7 => ⟨_, _, J7, q6⟩
          | .ret u, ⟨v6, σ6, H6, S6, r6, q6⟩ => exact away S6 fun t7 J7 => ⟨_, _, _, J7, r6, q6⟩
    exact go cl w
  · match fl, got with
    | .next, ⟨σ', H', J', q⟩ => exact wpAny_execs_nil ⟨σ', H', J'.ofTry good, q⟩
    | .brk, ⟨σ', H', J', q⟩ => exact ⟨σ', H', J'.ofTry good, q⟩
    | .cont, ⟨σ', H', J', q⟩ => exact ⟨σ', H', J'.ofTry good, q⟩
    | .ret u, ⟨v, σ', H', J', r, q⟩ => exact ⟨v, σ', H', J'.ofTry good, r, q⟩
end
end L2


set_option Elab.async false
set_option linter.all false
set_option maxRecDepth 100000
set_option maxHeartbeats 0
/-! A lambda handed to a def that tries it, some of whose handlers look at what the exception keeps -/
namespace Tr
open PySem PySem.Spec PyProof.Rows L2 LamX
variable [Tabl]
abbrev HdE := Value × Option Nat × (Addr → Value → Option Addr → TE)
def slotAs (a : Addr) (σ : L2.St) : Option Nat → L2.St
  | none => σ
  | some i => σ.set i (some (.ref a))
def wHdsM (em : Value → Value → Option Bool) (cls : Value) (d : Option Addr) (n : Nat) (H : Hp) (Q : VK) : List HdE → Prop
  | [] => False
  | (c, i, t) :: r => ∃ b, em cls c = some b ∧ (b = true → ∀ a σ, H a = none → σ.length = n → t a cls d (slotAs a σ i) H Q) ∧ (b = false → wHdsM em cls d n H Q r)
def TTmetM (K : PySem.W.Frag) (Ng : List Str) (l : List HdE) (fine : TE) : (XK → Hp → VK → Prop) → Hp → VK → Prop := fun tl H Q => ∀ f : Addr,
  tl (fun cls d H' => wHdsM (PySem.W.exmOne K) cls d Ng.length H' Q l) H fun _ H' => fine (L2.start Ng [V.ref f]) H' Q
/-- where a handler stands -/
structure HdCx (K : PySem.W.Frag) (mg : Str → Option Value) (sg : Scope) (Ng : List Str) (Z : Cx) : Prop where
  k : Z.K = K
  m : Z.mg = mg
  sc : Z.env.scope = sg
  n : Z.N = Ng
  g : NoG Z.A
  u : Z.A.units + 64 < cLine
inductive MetHM (K : PySem.W.Frag) (mg : Str → Option Value) (sg : Scope) (Ng : List Str) : List ExceptHandler → List HdE → Prop
  | nil : MetHM K mg sg Ng [] []
  | bare {x : Str} {e : Expr} {t : Addr → Value → Option Addr → TE} {c : Value} {np p6 p7 : Pos} {hds : List ExceptHandler} {l : List HdE} (h1 : sg.names.lookup x = some .globalImplicit) (h2 : mg x = some c)
      (he : ∀ (Z : Cx) (a : Addr) (oe : Obj) (cls : Value) (d : Option Addr) (pn : List (Addr × Obj)), HdCx K mg sg Ng Z → Zc cls d oe → (∃ vs, oe.data = .fields vs) → PE (Z.suite a ((a, oe) :: pn)) e (t a cls d)) (r : MetHM K mg sg Ng hds l) (h3 : (x == ("__debug__" : Str)) = false) :
      MetHM K mg sg Ng (.ExceptHandler (some (.Name x np)) none [.Return (some e) p6] p7 :: hds) ((c, none, t) :: l)
  | as {x n : Str} {i : Nat} {e : Expr} {t : Addr → Value → Option Addr → TE} {c : Value} {np p6 p7 : Pos} {hds : List ExceptHandler} {l : List HdE} (h1 : sg.names.lookup x = some .globalImplicit) (h2 : mg x = some c) (h4 : Ng[i]? = some n) (h5 : sg.names.lookup n = some .local)
      (he : ∀ (Z : Cx) (a : Addr) (oe : Obj) (cls : Value) (d : Option Addr) (pn : List (Addr × Obj)), HdCx K mg sg Ng Z → Zc cls d oe → (∃ vs, oe.data = .fields vs) → PE (Z.suite a ((a, oe) :: pn)) e (t a cls d)) (r : MetHM K mg sg Ng hds l) (h3 : (x == ("__debug__" : Str)) = false) :
      MetHM K mg sg Ng (.ExceptHandler (some (.Name x np)) (some n) [.Return (some e) p6] p7 :: hds) ((c, some i, t) :: l)
def hdM (l : List HdE) : List Clause := l.map fun x => (x.1, x.2.1, fun a cls d => tRet (x.2.2 a cls d))
theorem MetHM.ok {K : PySem.W.Frag} {mg : Str → Option Value} {sg : Scope} {Ng : List Str} {Z : Cx} {hds : List ExceptHandler} {l : List HdE} (h : MetHM K mg sg Ng hds l) (z : HdCx K mg sg Ng Z) : Clauses Z hds (hdM l) := by
  induction h with
  | nil => exact .nil
  | bare h1 h2 he r h3 ih => exact .bare ⟨by rw [← z.sc] at h1; exact h1, h3, .inl (by rw [z.m]; exact h2)⟩ (fun a oe cls d pn hz hf => pss_one (ps_ret (he Z a oe cls d pn z hz hf))) ih
  | as h1 h2 h4 h5 he r h3 ih => exact .as ⟨by rw [← z.sc] at h1; exact h1, h3, .inl (by rw [z.m]; exact h2)⟩ (by rw [z.n]; exact h4) (by rw [← z.sc] at h5; exact h5) (fun a oe cls d pn hz hf => pss_one (ps_ret (he Z a oe cls d pn z hz hf))) ih
theorem mix_of {K : PySem.W.Frag} {cls : Value} {d : Option Addr} {n : Nat} {σ : L2.St} {H : Hp} {D : Ends} : ∀ {l : List HdE}, wHdsM (PySem.W.exmOne K) cls d n H D.rt l → wMix K n (fun _ _ _ _ => False) D (hdM l) cls d σ H
  | [], h => h
  | (c, none, t) :: r, ⟨b, h1, h2, h3⟩ => ⟨b, h1, fun hb a ha hl => h2 hb a σ ha hl, fun hb => mix_of (h3 hb)⟩
  | (c, some i, t) :: r, ⟨b, h1, h2, h3⟩ => ⟨b, h1, fun hb a ha hl => h2 hb a σ ha hl, fun hb => mix_of (h3 hb)⟩
section
variable {X : Cx}
theorem met_givesM {Ng : List Str} {x a q : Str} {sg : Scope} {g : Addr} {cdg : Value} {k : Nat} {efine : Expr} {fine : TE} {p1 p2 p3 p8 p10 : Pos} {h₀ : ExceptHandler} {hds : List ExceptHandler} {l : List HdE} (hG : NoG X.A) (hr : Room (k + 1) X.A) (nd : Ng.Nodup) (M : MetHM X.K X.mg sg Ng (h₀ :: hds) l) (hfine : ∀ Z : Cx, Z.K = X.K → PE Z efine fine)
    (h0 : ∀ f : Addr, (L2.start Ng [V.ref f])[0]? = some (some (V.ref f))) :
    GivesTo X Ng x sg g cdg [.Try [.Expr (.Call (.Name a p1) [] [] p2) p3] (h₀ :: hds) [] [] p8, .Return (some efine) p10] a q (TTmetM X.K Ng l fine) := by
  intro f c' s H Q tl act hc h
  refine ⟨_, pss_cons (ps_try_mix (X := (cxOf C8.CX0 X.prog X.w X.K X.mg X.base Ng x sg g cdg X.A X.stack s H C8.E0).nox) (Wout := fun _ _ _ _ => False)
      (tb := fun W D σ H => ∃ Ech : XK, (∀ cls d σ' H', Ech cls d H' → W cls d σ' H') ∧ σ[0]? = some (some (.ref f)) ∧ H c' = some (CodeO c' q) ∧ tl Ech H fun _ H' => D.nx σ H')
      rfl rfl nd takes0 (fun W pn xe tk _ => ?_) (M.ok (Z := (cxOf C8.CX0 X.prog X.w X.K X.mg X.base Ng x sg g cdg X.A X.stack s H C8.E0).nox) ⟨rfl, rfl, rfl, rfl, hG.deeper _, (hr.deeper _).units⟩)) (pss_one (ps_ret (hfine _ rfl))), ?_⟩
  · exact ⟨fun pins s' σ H' D I ⟨Ech, hW, h1, h2, h3⟩ => (pss_one (ps_expr (pos := p3) (act W pn xe Ech p1 p2 tk hW) rfl)).run pins s' σ H' D I ⟨h1, h2, h3⟩⟩
  · exact ⟨fun cls d H' => wHdsM (PySem.W.exmOne X.K) cls d Ng.length H' Q l, fun cls d σ' H' z => mix_of z, h0 f, hc, h f⟩
end
/-! ### the reading -/
abbrev HdW := Value × Option (Nat × Str) × (Addr → Value → Option Addr → WE)
/-- what a handler is asked, where it has n slots -/
def hdAll (n : Nat) (w : Addr → Value → Option Addr → WE) (cls : Value) (o : XF) (P : Sl → Prop) : Option (Nat × Str) → Prop
  | none => ∀ a d, w a cls d (List.replicate n .any) P
  | some j => ∃ t, o = some (j.2, t) ∧ ∀ a dd, w a cls (some dd) ((List.replicate n .any).set j.1 (.val (.exc a dd j.2 t))) P
def wHdsA (em : Value → Value → Option Bool) (cls : Value) (o : XF) (n : Nat) (P : Sl → Prop) : List HdW → Prop
  | [] => False
  | (c, j, w) :: r => ∃ b, em cls c = some b ∧ (b = true → hdAll n w cls o P j) ∧ (b = false → wHdsA em cls o n P r)
def toE (K : PySem.W.Frag) (l : List HdW) : List HdE := l.map fun x => (x.1, x.2.1.map (·.1), fun a cls d => eOf K (x.2.2 a cls d))
section
variable {K : PySem.W.Frag} {F : Fx} {D A : Avoid} {H : Hp} {σ : L2.St} {sl : List Sl} {em : Value → Value → Option Bool} {cls : Value} {d : Option Addr} {o : XF} {n : Nat} {P : Sl → Prop} {Q : VK}
theorem wHdsA.to (S : Sta K F D A H σ sl) (ex : ExcF K A H d o) (q : ∀ v H2 x, Beh D H H2 → SlOk K D F.A0 A H2 v x → P x → Q v H2) : ∀ {l : List HdW}, wHdsA em cls o n P l → wHdsM em cls d n H Q (toE K l)
  | [], h => h
  | (c, none, w) :: r, ⟨b, h1, h2, h3⟩ => ⟨b, h1, fun hb a σ' ha hl => by
    subst hl
    have h4 : ∀ a d, w a cls d (List.replicate σ'.length .any) P := h2 hb
    exact ⟨F, D, A, _, P, S.anew σ', h4 a d, q⟩, fun hb => wHdsA.to S ex q (h3 hb)⟩
  | (c, some j, w) :: r, ⟨b, h1, h2, h3⟩ => ⟨b, h1, fun hb a σ' ha hl => by
    subst hl
    have h4 : ∃ t, o = some (j.2, t) ∧ ∀ a dd, w a cls (some dd) ((List.replicate σ'.length .any).set j.1 (.val (.exc a dd j.2 t))) P := h2 hb
    obtain ⟨t, rfl, h5⟩ := h4
    obtain ⟨dd, v, rfl, e1, e2, e3⟩ := ex
    exact ⟨F, D, A, _, P, (S.anew σ').set (i := j.1) (x := .val (.exc a dd j.2 t)) (Rep.exc e1 e2 e3) (fun _ _ z => nomatch z), h5 a dd, q⟩, fun hb => wHdsA.to S ex q (h3 hb)⟩
end
inductive MetHA (K : PySem.W.Frag) (mg : Str → Option Value) (sg : Scope) (Ng : List Str) : List ExceptHandler → List HdW → Prop
  | nil : MetHA K mg sg Ng [] []
  | bare {x : Str} {e : Expr} {w : Addr → Value → Option Addr → WE} {c : Value} {np p6 p7 : Pos} {hds : List ExceptHandler} {l : List HdW} (h1 : sg.names.lookup x = some .globalImplicit) (h2 : mg x = some c)
      (he : ∀ (Z : Cx) (a : Addr) (oe : Obj) (cls : Value) (d : Option Addr) (pn : List (Addr × Obj)), HdCx K mg sg Ng Z → Zc cls d oe → (∃ vs, oe.data = .fields vs) → GE (Z.suite a ((a, oe) :: pn)) e (w a cls d)) (r : MetHA K mg sg Ng hds l) (h3 : (x == ("__debug__" : Str)) = false := by decide) :
      MetHA K mg sg Ng (.ExceptHandler (some (.Name x np)) none [.Return (some e) p6] p7 :: hds) ((c, none, w) :: l)
  | as {x n f : Str} {i : Nat} {e : Expr} {w : Addr → Value → Option Addr → WE} {c : Value} {np p6 p7 : Pos} {hds : List ExceptHandler} {l : List HdW} (h1 : sg.names.lookup x = some .globalImplicit) (h2 : mg x = some c) (h4 : Ng[i]? = some n) (h5 : sg.names.lookup n = some .local)
      (he : ∀ (Z : Cx) (a : Addr) (oe : Obj) (cls : Value) (d : Option Addr) (pn : List (Addr × Obj)), HdCx K mg sg Ng Z → Zc cls d oe → (∃ vs, oe.data = .fields vs) → GE (Z.suite a ((a, oe) :: pn)) e (w a cls d)) (r : MetHA K mg sg Ng hds l) (h3 : (x == ("__debug__" : Str)) = false := by decide) :
      MetHA K mg sg Ng (.ExceptHandler (some (.Name x np)) (some n) [.Return (some e) p6] p7 :: hds) ((c, some (i, f), w) :: l)
theorem MetHA.e {K : PySem.W.Frag} {mg : Str → Option Value} {sg : Scope} {Ng : List Str} {hds : List ExceptHandler} {l : List HdW} (h : MetHA K mg sg Ng hds l) : MetHM K mg sg Ng hds (toE K l) := by
  induction h with
  | nil => exact .nil
  | bare h1 h2 he r h3 ih => exact .bare h1 h2 (fun Z a oe cls d pn z hz hf => by have q := he Z a oe cls d pn z hz hf; rw [← z.k]; exact q) ih h3
  | as h1 h2 h4 h5 he r h3 ih => exact .as h1 h2 h4 h5 (fun Z a oe cls d pn z hz hf => by have q := he Z a oe cls d pn z hz hf; rw [← z.k]; exact q) ih h3
/-- what a lambda raises, as the def that tries it tells it -/
def wMetA (em : Value → Value → Option Bool) (n : Nat) (l : List HdW) (fine : WE) (wb : WEX) : WE := fun sl P =>
  wb (fun cls o => wHdsA em cls o n P l) sl fun _ => ∀ n, fine (List.replicate n .any) P
section
variable {X : Cx}
theorem ge_metA {x a : Str} {g c P : Addr} {fd : FuncData} {k : Nat} {pg : Arguments} {sg : Scope} {Ng : List Str} {params : Arguments} {body efine : Expr} {scope : Scope} {wb : WEX} {wf : WE} {p lpos pos p1 p2 p3 p8 p10 : Pos} {h₀ : ExceptHandler} {hds : List ExceptHandler} {l : List HdW} (hG : NoG X.A)
    (F : FunD X.K x x pg [.Try [.Expr (.Call (.Name a p1) [] [] p2) p3] (h₀ :: hds) [] [] p8, .Return (some efine) p10] sg [] [] g fd) (M : MetHA X.K X.mg sg Ng (h₀ :: hds) l) (hfine : ∀ Z : Cx, GE Z efine wf) (hg : Gl X x) (hm : X.mg x = some (.ref g)) (hk : PySem.W.keepIn X.K (.ref g) = true) (hb : L2.Binds X.K fd [a] [])
    (Sg : FnScope Ng [a] sg) (hNg : Ng[0]? = some a) (hva : Vis sg a) (h0 : ∀ f : Addr, (L2.start Ng [V.ref f])[0]? = some (some (V.ref f)))
    (TB : TabB X.base X.mg c P) (hcode : X.env.code = .ref c) (hT : (P, X.env.qual ++ "<lambda>") ∈ Tabl.T) (hr : Room (k + 2) X.A) (L : LamS X.env.scope scope) (hdef : defaultsOf params X.env = ([], []))
    (hbind : ∀ (q : Str) (cl : List (Str × Addr)) (pm cv ctv : Value), bindArgs (PySem.W.kla_fn "<lambda>" q params body scope cl pm cv ctv) ⟨[], []⟩ = pure [])
    (hbody : ∀ (A : Around) (outer : List Env) (s : Shared) (H : Hp) (E : XK) (f c' : Addr), Room k (A.deeper (lamEnv X scope s.heap.objs.size f c')) → Takes (lamCx X A outer s H E scope f c') (fun cls d _ H' => E cls d H') → GEX (lamCx X A outer s H E scope f c') (fun cls d _ H' => E cls d H') body wb)
    (hdb : (x == ("__debug__" : Str)) = false := by decide) (hd : (a == ("__debug__" : Str)) = false := by decide) (hcd : (a == ("__classdict__" : Str)) = false := by decide) :
    GE X (.Call (.Name x p) [.Lambda params body scope lpos] [] pos) (wMetA (PySem.W.exmOne X.K) Ng.length l wf wb) :=
  ge_of (pe_lam (t := fun E => eOfX X.K (fun cls d _ H' => E cls d H') wb) (TT := TTmetM X.K Ng (toE X.K l) (eOf X.K wf)) F hg hm hk hb Sg hNg hva (fun cdv => met_givesM hG (hr.mono (Nat.le_succ _)) Sg.nd M.e (fun Z e => by rw [← e]; exact hfine Z) h0) TB hcode hr L hdef hbind (fun A outer s H E f c' hr => hbody A outer s H E f c' hr (takes_of rfl rfl rfl rfl)) hdb hd hcd)
    fun F D A H σ sl P Q S hw q => ⟨(S.liv.tabs _ hT).2, fun H1 told f =>
      have b0 := told.beh S hT
      ⟨F, D, A, sl, _, _, S.beh b0, hw,
        fun v H' x b ok hx => ⟨F, D, A, _, P, (S.beh (b0.trans b)).anew _, hx _, fun v2 H2 x2 b2 ok2 hp => q v2 H2 x2 ((b0.trans b).trans b2) ok2 hp⟩,
        fun H' cls d o b hf hr => wHdsA.to (S.beh (b0.trans b)) hf (fun v2 H2 x2 b2 ok2 hp => q v2 H2 x2 ((b0.trans b).trans b2) ok2 hp) hr⟩⟩
end
/-! ### what the exception keeps -/
def XfD (K : PySem.W.Frag) (C : Addr) (f : Str) : Prop := XfC K C ∧ PySem.W.findIn K (.ref C) f = some none
def xfdB (c f : String) (K : PySem.W.Frag) : Bool := L2.xfB K (He.ga K c) && decide (PySem.W.findIn K (.ref (He.ga K c)) f = some none)
theorem xfdB_ok {c f : String} {K : PySem.W.Frag} (h : xfdB c f K = true) : XfD K (He.ga K c) f := by
  unfold xfdB at h
  rw [Bool.and_eq_true] at h
  exact ⟨L2.xfB_ok h.1, of_decide_eq_true h.2⟩
def wXf (a : Addr) (cls : Value) (d : Option Addr) (C : Addr) (i : Nat) (f : Str) : WE := fun sl P => cls = .ref C ∧ ∃ dd t, d = some dd ∧ nth sl i = .val (.exc a dd f t) ∧ P (.val t)
section
variable {K : PySem.W.Frag} {mg : Str → Option Value} {sg : Scope} {Ng : List Str} {Z : Cx}
theorem HdCx.gl {x : Str} {a : Addr} {pn : List (Addr × Obj)} (z : HdCx K mg sg Ng Z) (h : sg.names.lookup x = some .globalImplicit) : Gl (Z.suite a pn) x := by
  rw [← z.sc] at h; exact h
theorem HdCx.mg0 {x : Str} {a : Addr} {pn : List (Addr × Obj)} (z : HdCx K mg sg Ng Z) (h : mg x = none) : (Z.suite a pn).mg x = none := by
  rw [← z.m] at h; exact h
theorem HdCx.ng {a : Addr} {pn : List (Addr × Obj)} (z : HdCx K mg sg Ng Z) : NoG (Z.suite a pn).A := z.g
theorem HdCx.un {a : Addr} {pn : List (Addr × Obj)} (z : HdCx K mg sg Ng Z) : (Z.suite a pn).A.units + 64 < cLine := z.u
theorem ge_xf {C a : Addr} {oe : Obj} {cls : Value} {d : Option Addr} {pn : List (Addr × Obj)} {x f : Str} {p pos : Pos} (i : Nat) (z : HdCx K mg sg Ng Z) (T : XfD K C f) (hz : Zc cls d oe) (hf : ∃ vs, oe.data = .fields vs) (hN : Ng[i]? = some x) (hv : Vis sg x) (hd : (x == ("__debug__" : Str)) = false := by decide) (hcd : (x == ("__classdict__" : Str)) = false := by decide)
    (hb : attributeBase (.Name x p) f Z.env (eval (.Name x p) Z.env) = eval (.Name x p) Z.env := by rfl) : GE (Z.suite a ((a, oe) :: pn)) (.Attribute (.Name x p) f pos) (wXf a cls d C i f) := by
  refine ge_of (pe_xf (C := C) (z.k ▸ T.1) (by rw [z.k]; exact T.2) hz hf (pe_var (i := i) (by rw [show (Z.suite a ((a, oe) :: pn)).N = Ng from z.n]; exact hN) (by rw [show (Z.suite a ((a, oe) :: pn)).env.scope = sg from z.sc]; exact hv) hd hcd) hb) fun F D A H σ sl P Q S ⟨e1, dd, t, e2, e3, hp⟩ q => ?_
  obtain ⟨v, hv, ok⟩ := S.get (nth_val e3 (fun z => nomatch z)) (fun z => nomatch z)
  have r : Rep (Z.suite a ((a, oe) :: pn)).K A H v (.exc a dd f t) := ok
  cases r with
  | exc n h r => exact ⟨_, hv, rfl, e1, dd, _, _, e2, h, by simp [List.lookup], q _ H (.val t) (Beh.refl S) r hp⟩
end
/-! a def that makes lambdas, and whose handlers use repr -/
section
variable {P : Program} {w : World} {K : PySem.W.Frag} {mg : Str → Option Value} {base : Heap}
theorem fn_treeCG {x qual : Str} {params : Arguments} {body : List Stmt} {scope : Scope} {dvs : List V} {kws : List (Str × V)} {f : Addr} {fd : FuncData} {N ps : List Str} {k n m : Nat} {ws : WS} (F : FunD K x qual params body scope dvs kws f fd) (S : FnScope N ps scope) (hn : ps.length = n) (hm : N.length - n = m)
    (hb : ∀ (c : Addr) (A : Around) (outer : List Env) (s : Shared) (H : Hp) (E : XK), (∃ oc od osl dV kV doc pm an ct, K.lookup f = some ⟨oc, od, .func (PySem.W.fnOf x qual params body scope dV kV doc pm an (.ref c) ct), osl⟩) → Room k (A.deeper (envOfC qual scope s.heap.objs.size f (.ref c))) → NoG (A.deeper (envOfC qual scope s.heap.objs.size f (.ref c))) → GSs (cxOf CX0 P w K mg base N qual scope f (.ref c) A outer s H E).nox body ws) :
    FnG P w K mg base CX0 (k + 1) f fd ps (spT K (wDef n m ws)) := by
  refine FunD.okGc F S (fun vs H Q E h => ?_) (fun c A outer s H vs Q E lk g hr h => ?_)
  · obtain ⟨D, A, xs, P', _, _, _, h4, h5, _⟩ := h
    rw [Paired.length_eq h4, h5.1, hn]
  · obtain ⟨D, A', xs, P', h1, h2, h3, h4, h5, q⟩ := h
    refine ⟨_, PSs.nox (hb c A outer s H E lk hr (g.deeper _)), ⟨D, A', H, [], []⟩, D, A', _, _, start_sta h1 h2 h3 h4 (m := m) (by rw [Paired.length_eq h4, h5.1]; exact hm), h5.2, fun D' A2 H' σ' sl' S' hx => ?_, fun _ _ _ _ _ _ z => z.elim, fun _ _ _ _ _ _ z => z.elim, fun D' A2 H' σ' sl' v x S' ok hx => ?_⟩
    · exact q .non H' (.val .non) ⟨S'.ext, S'.keep⟩ Rep.non hx
    · have be : Beh D H H' := ⟨S'.ext, S'.keep⟩
      cases x with
      | val t => exact q v H' (.val t) be (Rep.sub S'.sub ok) hx
      | ob l ts =>
        obtain ⟨rfl, g1, g2, g3, g4⟩ := ok
        cases ts with
        | lst ts => exact q (.ref l) H' (.val (.lst ts)) be (g4.rep (o := .lst ts) g2 fun _ _ r => r.sub S'.sub) hx
        | dct ks ts => exact q (.ref l) H' (.val (.dct ks ts)) be (g4.rep (o := .dct ks ts) g2 fun _ _ r => r.sub S'.sub) hx
      | any => exact hx.elim
      | dice => exact hx.elim
theorem fn_treeLG {d : He.Defn} {x qual : Str} {params : Arguments} {body : List Stmt} {scope : Scope} {dvs : List V} {kws : List (Str × V)} {fd : FuncData} {N ps : List Str} {k n m : Nat} {ws : WS} (F : FunD K x qual params body scope dvs kws (He.fAd K d) fd) (S : FnScope N ps scope) (hn : ps.length = n) (hm : N.length - n = m)
    (hb : ∀ (A : Around) (outer : List Env) (s : Shared) (H : Hp) (E : XK), Room k (A.deeper (envOfC qual scope s.heap.objs.size (He.fAd K d) (.ref (He.codeOf K d)))) → NoG (A.deeper (envOfC qual scope s.heap.objs.size (He.fAd K d) (.ref (He.codeOf K d)))) → GSs (cxOf CX0 P w K mg base N qual scope (He.fAd K d) (.ref (He.codeOf K d)) A outer s H E).nox body ws) :
    FnG P w K mg base CX0 (k + 1) (He.fAd K d) fd ps (spT K (wDef n m ws)) :=
  fn_treeCG F S hn hm fun c A outer s H E ⟨_, _, _, _, _, _, _, _, _, lk⟩ hr hg => by
    have e := He.codeOf_eq lk rfl
    subst e
    exact hb A outer s H E hr hg
end
end Tr


set_option Elab.async false
set_option linter.all false
set_option maxRecDepth 100000
set_option maxHeartbeats 0
/-! A def that a variable holds, called -/
namespace L2
open PySem PySem.Spec PyProof.Rows
section
variable {X : Cx} {CX : CXT} {k i : Nat} {S : Addr → Sp → Prop} {E : St → XK} {x : Str} {p pos : Pos} {e : Expr} {es : List Expr} {t : TA}
def tCallV (i : Nat) (S : Addr → Sp → Prop) (E : St → XK) (t : TA) : TE := fun σ H Q => ∃ f sp, σ[i]? = some (some (.ref f)) ∧ S f sp ∧ t σ H fun vs H1 => sp vs H1 Q (E σ)
end
end L2
namespace Tr
open PySem PySem.Spec PyProof.Rows L2
variable [Tabl]
section
variable {X : Cx} {E : XK}
def xCallV (cN : Str → Addr) (i : Nat) (tbl : List (Str × WFX)) (a : WA) : WEX := fun R sl P => ∃ p ∈ tbl, nth sl i = .val (.fn (cN p.1)) ∧ a sl fun xs => xs.all isArg = true ∧ p.2 R xs P
end
section
variable {P : Program} {w : World} {K : PySem.W.Frag} {mg : Str → Option Value} {base : Heap} {k j : Nat} {cN : Str → Addr}
theorem FnOk.mono {CX : CXT} {f : Addr} {fd : FuncData} {ps : List Str} {sp : Sp} (F : FnOk P w K mg base CX j f fd ps sp) (h : j ≤ k) : FnOk P w K mg base CX k f fd ps sp :=
  ⟨F.len, fun A outer s H args us vs Q E hr => F.run A outer s H args us vs Q E (hr.mono h)⟩
theorem CallX.mono {x : Str} {wf : WFX} {dvs : List V} (d : CallX P w K mg base j x wf dvs) (h : j ≤ k) : CallX P w K mg base k x wf dvs := by
  obtain ⟨f, fd, ps, ds, F, r⟩ := d
  exact ⟨f, fd, ps, ds, FnOk.mono F h, r⟩
theorem CallX.mkI {c f B : String} {bmB : List Value} {newId initId : String} {qual : Str} {params : Arguments} {body : List Stmt} {scope : Scope} {kws : List (Str × V)} {fd : FuncData} (BB : ExB B bmB newId initId) (T : OexF c f B bmB newId initId K) (F : FunD K "__init__" qual params body scope [] kws (He.fAd K (c, some "__init__")) fd)
    (G : FnOk P w K mg base CX0 1 (He.fAd K (c, some "__init__")) fd ["self", (f : Str)] (spE (He.ga K c) f)) (hm : mg c = some (.ref (He.ga K c))) (h : ∀ (kV doc pm : Value) (an : Option Addr) (cdv ct : Value) (us : List Value), us.length = 2 → bindArgs (PySem.W.fnOf "__init__" qual params body scope .none kV doc pm an cdv ct) ⟨us, []⟩ = pure ((["self", (f : Str)] : List Str).zip us)) :
    ExI P w K mg base c (He.ga K c) f := ⟨bmB, B, newId, initId, _, fd, _, BB, T.g, T.i, T.f, G, F.bindsN h, hm⟩
end
end Tr


set_option Elab.async false
set_option linter.all false
set_option maxRecDepth 100000
set_option maxHeartbeats 0
/-! repr of data, and of the empty dict -/
namespace L2
open PySem PySem.Spec PyProof.Rows
def rReprZ (K : PySem.W.Frag) : List V → Hp → VK → Prop := fun xs H Q => rReprD K xs H Q ∨ ∃ a, xs = [.ref a] ∧ Rd H a (.dK []) ∧ Q (.str "{}") H
section
variable {X : Cx}
theorem call_reprZ (g : NoG X.A) (hu : X.A.units + 64 < cLine) : CallR X (.builtin "repr") (rReprZ X.K) := by
  intro pins s σ H xs us Q I r h
  rcases h with h | ⟨a, rfl, hd, q⟩
  · exact call_reprD g hu pins s σ H xs us Q I r h
  · obtain ⟨u, rfl, ru⟩ := vals1 r
    cases ru
    obtain ⟨vs, hs, kv, o, es, ep, e1, e2, e3, _, e5, _⟩ := Tr.rd_dict I hd
    have hv : vs = [] := List.length_eq_zero_iff.mp (kv.length.symm.trans rfl)
    subst hv
    have he : es.toList = [] := List.length_eq_zero_iff.mp (e5.length.trans rfl)
    have rd : Reads s.heap (.ref a) (.dict []) (a :: [] ++ []) := .dict (kvs := []) e1 e2.1 e3 (by rw [he]; exact .nil) (by rw [he]; exact .nil)
    have hn : sysModules ∉ (a :: [] ++ [] : List Addr) := fun z => by
      rcases List.mem_cons.mp z with z | z
      · rw [← z] at hs
        exact absurd hs (by decide)
      · cases z
    exact repr_of_reads' rd rfl (fun _ => hn) g (by show X.A.units + (_ + 1) < _; have : (PyData.dict []).depth ≤ 2 := by decide
                                                    omega) (fun _ _ e => e) (fun h' v tk hk => ⟨.str _, H, I.kept hk, ⟨_, rfl⟩, q⟩) (Nat.le_of_ble_eq_true rfl)
end
end L2
namespace Tr
open PySem PySem.Spec PyProof.Rows L2
variable [Tabl]
section
variable {K : PySem.W.Frag}
def reprZ : List T → Option T
  | [.dct [] []] => some (.str "{}")
  | ts => reprD ts
theorem sc_reprZ : SCall K (rReprZ K) reprZ := fun A H vs ts z Q al r e q => by
  unfold reprZ at e
  split at e
  · obtain ⟨v, rfl, rv⟩ := one_of r
    obtain ⟨a, ws, rfl, hd, _, _⟩ := rv.dct
    cases e
    exact .inr ⟨a, rfl, hd, q _ _ (Ext.refl H) (.str _)⟩
  · exact .inl (sc_reprD A H vs ts z Q al r e q)
end
end Tr


set_option Elab.async false
set_option linter.all false
set_option maxRecDepth 100000
set_option maxHeartbeats 0
namespace Tr
open PySem PySem.Spec PyProof.Rows L2
variable [Tabl]
/-! ### 26. steps of what raises with a field, of handlers that look at it, of defs that a variable holds -/
section
variable {sl : List Sl} {P : Sl → Prop} {f bk ct : List Sl → Prop} {rt : Sl → Prop} {R : RXs} {r : RX} {a : WA} {C : Addr} {fl : Str} {t : T} {em : Value → Value → Option Bool} {l : List HdW} {w : Addr → Value → Option Addr → WE} {cN : Str → Addr} {N : List Str} {n i : Nat} {x y : Str} {o : XF}
def rfG (R : RXs) (C : Addr) (fl : Str) (sl : List Sl) (xs : List Sl) : Prop := ∃ t, xs = [.val t] ∧ R (.ref C) (some (fl, t)) sl
theorem x_raiseF (h : a sl fun xs => rfG R C fl sl xs) : xRaiseF C fl a R ⟨f, rt, bk, ct⟩ sl := h
theorem x_rfv (h : R (.ref C) (some (fl, t)) sl) : rfG R C fl sl [.val t] := ⟨t, rfl, h⟩
def hdA (em : Value → Value → Option Bool) (n : Nat) (P : Sl → Prop) (l : List HdW) : RX := fun cls o => wHdsA em cls o n P l
theorem x_metA {wf : WE} {wb : WEX} (h : wb (hdA em n P l) sl fun _ => anyW wf P) : wMetA em n l wf wb sl P := h
theorem x_hitA (h : EmOk cN em N) (hx : x ∈ N) (p : ∀ a d, w a (.ref (cN x)) d (List.replicate n .any) P) : hdA em n P ((.ref (cN x), none, w) :: l) (.ref (cN x)) o := ⟨true, by rw [h x hx x hx, decide_eq_true rfl], fun _ => p, fun z => (nomatch z)⟩
theorem x_hitS (h : EmOk cN em N) (hx : x ∈ N) (p : ∀ a d, w a (.ref (cN x)) (some d) ((List.replicate n .any).set i (.val (.exc a d fl t))) P) : hdA em n P ((.ref (cN x), some (i, fl), w) :: l) (.ref (cN x)) (some (fl, t)) := ⟨true, by rw [h x hx x hx, decide_eq_true rfl], fun _ => ⟨t, rfl, p⟩, fun z => (nomatch z)⟩
theorem x_missA {j : Option (Nat × Str)} (h : EmOk cN em N) (hx : x ∈ N) (hy : y ∈ N) (hn : x ≠ y) (p : hdA em n P l (.ref (cN y)) o) : hdA em n P ((.ref (cN x), j, w) :: l) (.ref (cN y)) o := ⟨false, by rw [h y hy x hx, decide_eq_false (fun z => hn z.symm)], fun z => (nomatch z), fun _ => p⟩
theorem x_xf {b d : Addr} (e : nth sl i = .val (.exc b d fl t)) (h : P (.val t)) : wXf b (.ref C) (some d) C i fl sl P := ⟨rfl, d, t, rfl, e, h⟩
def cvG (tbl : List (Str × WFX)) (q : WFX) (r : RX) (P : Sl → Prop) (xs : List Sl) : Prop := xs.all isArg = true ∧ q r xs P
theorem x_cvv {tbl : List (Str × WFX)} {q : WFX} {xs : List Sl} (e : xs.all isArg = true) (h : q r xs P) : cvG tbl q r P xs := ⟨e, h⟩
end
end Tr


set_option Elab.async false
set_option linter.all false
set_option maxRecDepth 100000
set_option maxHeartbeats 0
/-! a loop whose body may raise -/
namespace Tr
open PySem PySem.Spec PyProof.Rows L2
variable [Tabl]
def wForLX (g : Tg) (b : WSX) (R : RXs) (k : Ks) : List T → List Sl → Prop
  | [], sl => k.nx sl
  | t :: r, sl => ∃ sl', g.st t sl = some sl' ∧ b R { nx := fun s => wForLX g b R k r s, ct := fun s => wForLX g b R k r s, bk := k.nx, rt := k.rt } sl'
def xFor (wi : WI) (g : Tg) (b : WSX) : WSX := fun R k sl => wi sl fun ts => wForLX g b R k ts sl
section
variable {K : PySem.W.Frag}
end
section
variable {X : Cx} {W : L2.WX}
theorem x_forX {wi : WI} {g : Tg} {b : WSX} {R : RXs} {k : Ks} {sl : List Sl} (h : wi sl fun ts => wForLX g b R k ts sl) : xFor wi g b R k sl := h
end
end Tr


set_option Elab.async false
set_option linter.all false
set_option maxRecDepth 100000
set_option maxHeartbeats 0
/-! a call whose one argument may raise -/
namespace Tr
open PySem PySem.Spec PyProof.Rows L2
variable [Tabl]
def aOfX (K : PySem.W.Frag) (W : L2.WX) (w : WEX) : TA := fun σ H Q => ∃ F D A sl P R, Sta K F D A H σ sl ∧ w R sl P ∧ (∀ v H' x, Beh D H H' → SlOk K D F.A0 A H' v x → P x → Q [v] H') ∧ ∀ H' cls d o, Beh D H H' → ExcF K A H' d o → R cls o → W cls d σ H'
section
variable {X : Cx} {W : L2.WX} {E : XK}
def xMethA (C : Addr) (m : Str) (wf : WFX) (dts : List T) (o : WE) (a : WEX) : WEX := fun R sl P => o sl fun x => ∃ ns ts, x = .val (.ins C ns ts) ∧ m ∉ ns ∧ a R sl fun y => isArg y = true ∧ wf R (x :: y :: dts.map Sl.val) P
def xCallA (wf : WFX) (dts : List T) (a : WEX) : WEX := fun R sl P => a R sl fun y => isArg y = true ∧ wf R (y :: dts.map Sl.val) P
end
section
variable {sl : List Sl} {P : Sl → Prop} {r : RX} {C : Addr} {m : Str} {wf : WFX} {dts : List T} {o : WE} {a : WEX} {x y : Sl} {ns : List Str} {ts : List T}
def xaG (wf : WFX) (dts : List T) (C : Addr) (m : Str) (a : WEX) (sl : List Sl) (r : RX) (P : Sl → Prop) (x : Sl) : Prop := ∃ ns ts, x = .val (.ins C ns ts) ∧ m ∉ ns ∧ a r sl fun y => isArg y = true ∧ wf r (x :: y :: dts.map Sl.val) P
def xbG (wf : WFX) (dts : List T) (r : RX) (P : Sl → Prop) (x y : Sl) : Prop := isArg y = true ∧ wf r (x :: y :: dts.map Sl.val) P
def xdG (wf : WFX) (dts : List T) (r : RX) (P : Sl → Prop) (y : Sl) : Prop := isArg y = true ∧ wf r (y :: dts.map Sl.val) P
theorem x_methA (h : o sl fun x => xaG wf dts C m a sl r P x) : xMethA C m wf dts o a r sl P := h
theorem x_maI (hm : m ∉ ns) (h : a r sl fun y => xbG wf dts r P (.val (.ins C ns ts)) y) : xaG wf dts C m a sl r P (.val (.ins C ns ts)) := ⟨ns, ts, rfl, hm, h⟩
theorem x_mav (e : isArg y = true) (h : wf r (x :: y :: dts.map Sl.val) P) : xbG wf dts r P x y := ⟨e, h⟩
theorem x_callA (h : a r sl fun y => xdG wf dts r P y) : xCallA wf dts a r sl P := h
theorem x_cav (e : isArg y = true) (h : wf r (y :: dts.map Sl.val) P) : xdG wf dts r P y := ⟨e, h⟩
end
end Tr


set_option Elab.async false
set_option linter.all false
set_option maxRecDepth 100000
set_option maxHeartbeats 0
/-! isinstance(x, tuple), where x may be an instance of an own class -/
namespace Tr
open PySem PySem.Spec PyProof.Rows L2
variable [Tabl]
def IsXD (K : PySem.W.Frag) (C : Addr) (n : String) : Prop := InsD K C ∧ PySem.W.kitOne K (.ref C) (.type n) = some false
def isxB (c n : String) (K : PySem.W.Frag) : Bool := insB c K && decide (PySem.W.kitOne K (.ref (He.ga K c)) (.type n) = some false)
theorem isxB_ok {c n : String} {K : PySem.W.Frag} (cl : Cls K (He.ga K c)) (h : isxB c n K = true) : IsXD K (He.ga K c) n := by
  unfold isxB at h
  rw [Bool.and_eq_true] at h
  exact ⟨insB_ok cl h.1, of_decide_eq_true h.2⟩
/-- isinstance, an instance of C is none -/
def isiX (C : Addr) (n : String) : T → Option Bool
  | .ins C' _ _ => if C' = C then some false else none
  | x => match isiT [x, .ty n] with
    | some (.bl b) => some b
    | _ => none
section
variable {X : Cx} {K : PySem.W.Frag}
theorem isiX_ok {C : Addr} {n : String} {A : Avoid} {H : Hp} {v : V} {t : T} {b : Bool} (d : IsXD K C n) (r : RepS K A H v t) (e : isiX C n t = some b) : ∃ ty, TyX K H v ty ∧ PySem.W.kitOne K ty (.type n) = some b := by
  have other : (match isiT [t, .ty n] with
    | some (.bl b) => some b
    | _ => none) = some b → ∃ ty, TyX K H v ty ∧ PySem.W.kitOne K ty (.type n) = some b := fun e => by
    split at e
    · rename_i c ec
      cases e
      obtain ⟨h1, h2, h3, b, e1, e2⟩ := isi_eq ec
      cases e2
      exact ⟨_, ty_ok r h1 h2 h3, kit_ty e1⟩
    · cases e
  cases t with
  | ins C' ns ts =>
    by_cases hc : C' = C
    · subst hc
      rw [show isiX C' n (.ins C' ns ts) = some false from if_pos rfl] at e
      cases e
      cases r with
      | of r =>
        obtain ⟨a, dx, vs, rfl, _, _, h1, _⟩ := Rep.insI r
        exact ⟨_, .base (.ins h1 d.1.cl d.1.ha d.1.hn d.1.htk d.1.hm), d.2⟩
    · rw [show isiX C n (.ins C' ns ts) = none from if_neg hc] at e
      cases e
  | _ => exact other e
def wIsX (C : Addr) (n : String) (w : WE) : WE := fun sl P => w sl fun x => ∃ t b, x.tree = some t ∧ isiX C n t = some b ∧ P (.val (.bl b))
theorem ge_isX {C : Addr} {x y : Str} {n : String} {e : Expr} {w : WE} {p p2 pos : Pos} (d : IsXD X.K C n) (hg : Gl X x) (hm : X.mg x = none) (hv : bootBuiltins x = some (.builtin "isinstance")) (he : GE X e w) (hg2 : Gl X y) (hm2 : X.mg y = none) (hv2 : bootBuiltins y = some (.type n))
    (hn : x ≠ "__name__" := by decide) (hn2 : y ≠ "__name__" := by decide) (hdb : (x == ("__debug__" : Str)) = false := by decide) (hdb2 : (y == ("__debug__" : Str)) = false := by decide) (h1 : starEach [e, .Name y p2] X.env = (false, eval e X.env) :: starEach [.Name y p2] X.env := by rfl)
    (h2 : starEach [.Name y p2] X.env = (false, eval (.Name y p2) X.env) :: starEach [] X.env := by rfl) (hpl : (backTo pos (starEach [.Name y p2] X.env)).any (·.1) = false := by rfl) :
    GE X (.Call (.Name x p) [e, .Name y p2] [] pos) (wIsX C n w) := ge_of (pe_callB call_isi hg hm hv (pa_cons he (pa_cons (pe_bltn (v := .ty n) hg2 hm2 hv2 rfl hn2 hdb2) pa_nil h2) h1) hn hdb h1 hpl) fun F D A H σ sl P Q S hw q =>
  ⟨F, D, A, sl, _, S, hw, fun v H1 z b1 ok hx => by
    obtain ⟨t, b, et, eb, hp⟩ := hx
    obtain ⟨ty, h3, h4⟩ := isiX_ok d (ok.reads et) eb
    exact ⟨v, .ty n, ty, .type n, b, rfl, .ty n, h3, h4, q (.bl b) H1 (.val (.bl b)) b1 (Rep.bl b) hp⟩⟩
end
section
variable {sl : List Sl} {P : Sl → Prop} {C : Addr} {n : String} {w : WE} {t : T} {b : Bool} {ns : List Str} {ts : List T}
def ixG (C : Addr) (n : String) (P : Sl → Prop) (x : Sl) : Prop := ∃ t b, x.tree = some t ∧ isiX C n t = some b ∧ P (.val (.bl b))
theorem x_isX (h : w sl fun x => ixG C n P x) : wIsX C n w sl P := h
theorem x_isXi (h : P (.val (.bl false))) : ixG C n P (.val (.ins C ns ts)) := ⟨_, false, rfl, if_pos rfl, h⟩
theorem isX_tup : isiX C "tuple" (.tup ts) = some true := by
  have h : kitB "tuple" "tuple" = some true := by decide +kernel
  simp [isiX, isiT, tyT, h]
theorem isX_of {n : String} {x : T} {b : Bool} (h : kitB (tyT x) n = some b) (hx : isiX C n x = (match isiT [x, .ty n] with
    | some (.bl b) => some b
    | _ => none)) (hy : isiT [x, .ty n] = (kitB (tyT x) n).map fun b => .bl b) : isiX C n x = some b := by
  rw [hx, hy, h]; rfl
theorem x_isXt (h : P (.val (.bl true))) : ixG C "tuple" P (.val (.tup ts)) := ⟨_, true, rfl, isX_tup, h⟩
theorem x_isXl (h : P (.val (.bl false))) : ixG C "tuple" P (.val (.lst ts)) := ⟨_, false, rfl, isX_of (b := false) (by show kitB "list" "tuple" = _; decide +kernel) rfl rfl, h⟩
theorem x_isXn (h : P (.val (.bl false))) : ixG C "tuple" P (.val .non) := ⟨_, false, rfl, isX_of (b := false) (by show kitB "NoneType" "tuple" = _; decide +kernel) rfl rfl, h⟩
theorem x_isXs {z : Str} (h : P (.val (.bl false))) : ixG C "tuple" P (.val (.str z)) := ⟨_, false, rfl, isX_of (b := false) (by show kitB "str" "tuple" = _; decide +kernel) rfl rfl, h⟩
theorem x_isXz {i : Int} (h : P (.val (.bl false))) : ixG C "tuple" P (.val (.int i)) := ⟨_, false, rfl, isX_of (b := false) (by show kitB "int" "tuple" = _; decide +kernel) rfl rfl, h⟩
theorem x_isXb {i : Bool} (h : P (.val (.bl false))) : ixG C "tuple" P (.val (.bl i)) := ⟨_, false, rfl, isX_of (b := false) (by show kitB "bool" "tuple" = _; decide +kernel) rfl rfl, h⟩
theorem x_isXd {ks : List Key} (h : P (.val (.bl false))) : ixG C "tuple" P (.val (.dct ks ts)) := ⟨_, false, rfl, isX_of (b := false) (by show kitB "dict" "tuple" = _; decide +kernel) rfl rfl, h⟩
end
end Tr


set_option Elab.async false
set_option linter.all false
set_option maxRecDepth 100000
set_option maxHeartbeats 0
/-! sets of keys (whole numbers and texts), told with all that a walk wants: add, set(xs), sorted(set(xs)) -/
namespace SG
open PySem PySem.Spec PyProof.Rows L2
theorem paired_perm {α β : Type} {R : α → β → Prop} : ∀ {as as' : List α}, as'.Perm as → ∀ {bs : List β}, Paired R as bs → ∃ bs', Paired R as' bs' ∧ bs'.Perm bs := by
  intro as as' p
  induction p with
  | nil => intro bs h; exact ⟨bs, h, .refl _⟩
  | cons x _ ih =>
    intro bs h
    cases h with
    | cons r t =>
      obtain ⟨bs', h1, h2⟩ := ih t
      exact ⟨_ :: bs', .cons r h1, h2.cons _⟩
  | swap x y l =>
    intro bs h
    cases h with
    | cons r t =>
      cases t with
      | cons r2 t2 => exact ⟨_ :: _ :: _, .cons r2 (.cons r t2), .swap _ _ _⟩
  | trans _ _ ih1 ih2 =>
    intro bs h
    obtain ⟨b1, h1, p1⟩ := ih2 h
    obtain ⟨b2, h2, p2⟩ := ih1 h1
    exact ⟨b2, h2, p2.trans p1⟩
theorem paired_mem {α β : Type} {R : α → β → Prop} : ∀ {as : List α} {bs : List β}, Paired R as bs → ∀ a ∈ as, ∃ b ∈ bs, R a b
  | _, _, .nil, a, h => by cases h
  | _, _, .cons r t, a, h => by
    rcases List.mem_cons.mp h with e | e
    · exact ⟨_, List.mem_cons_self, e ▸ r⟩
    · obtain ⟨b, h1, h2⟩ := paired_mem t a e
      exact ⟨b, List.mem_cons_of_mem _ h1, h2⟩
theorem paired_mem' {α β : Type} {R : α → β → Prop} : ∀ {as : List α} {bs : List β}, Paired R as bs → ∀ b ∈ bs, ∃ a ∈ as, R a b
  | _, _, .nil, a, h => by cases h
  | _, _, .cons r t, a, h => by
    rcases List.mem_cons.mp h with e | e
    · exact ⟨_, List.mem_cons_self, e ▸ r⟩
    · obtain ⟨b, h1, h2⟩ := paired_mem' t a e
      exact ⟨b, List.mem_cons_of_mem _ h1, h2⟩
section
variable {P : Program} {w : World} {κ : Type} [DecidableEq κ]
/-- an element of a set and its key -/
def Elt (knd : PySem.KeyKind P w κ) (e : Int × Value) (k : κ) : Prop := (knd.is k e.2 = true ∧ e.1 = knd.hash k) ∧ e.2.scannable = true
/-- the table of a set that can be walked -/
structure Tbl (w : World) (es : Array (Int × Value)) (t : SetTable) : Prop where
  few : es.size < scanBound
  fits : t.fits es.size = true
  ris : Ris t.place.toList
  led : w.params.followText "set-order" = true ∨ t.led = true
def SetG (knd : PySem.KeyKind P w κ) (h : Heap) (a : Addr) (ks : List κ) : Prop :=
  ∃ o es ep t L, h.get? a = some o ∧ o.ExactSet ∧ o.data = .set es ep t ∧ Paired (Elt knd) es.toList L ∧ L.Perm ks ∧ ks.Nodup ∧ Tbl w es t
variable {knd : PySem.KeyKind P w κ} {h h' : Heap} {a : Addr} {ks : List κ}
theorem SetG.keep (R : SetG knd h a ks) (k : ∀ o, h.get? a = some o → h'.get? a = some o) : SetG knd h' a ks := by
  obtain ⟨o, es, ep, t, L, e, r⟩ := R
  exact ⟨o, es, ep, t, L, k o e, r⟩
theorem elems {es : List (Int × Value)} {L : List κ} (p : Paired (Elt knd) es L) : ElemsOf knd es := fun e he => by
  obtain ⟨k, _, q⟩ := paired_mem p e he
  exact ⟨⟨k, q.1⟩, q.2⟩
theorem SetG.is (R : SetG knd h a ks) {s : Shared} (e : s.heap = h) : s.TypeIs (.ref a) "set" := by
  obtain ⟨o, es, ep, t, L, ho, hx, _⟩ := R
  exact ⟨o, by rw [e]; exact ho, hx.1⟩
theorem new_set (h : Heap) : SetG knd (h.push (SL.set0 w)) h.objs.size [] :=
  ⟨_, #[], 0, _, [], Heap.get?_push_size _ rfl, ⟨rfl, rfl, rfl⟩, rfl, .nil, .refl _, .nil, by unfold scanBound; decide, by rfl, .nil, by
    by_cases z : w.params.followText "set-order" = true
    · exact .inl z
    · exact .inr (show (!w.params.followText "set-order") = true by rw [Bool.not_eq_true] at z; rw [z]; rfl)⟩
end
section
variable {P : Program} {w : World} {κ : Type} [DecidableEq κ] {knd : PySem.KeyKind P w κ} {A : Around} {E : Value → Shared → Prop} {s : Shared} {a : Addr} {ks : List κ}
/-- the rows behind the new element: laid down, and laid anew where the table is too full -/
theorem lay_down {give : Bool → Sem Unit} (hg : ∀ (b : Bool) (s1 : Shared) (Q : Unit → Shared → Prop), Q () s1 → wpAny (model P w) A (give b) Q E s1) {o : Obj} {es es1 : Array (Int × Value)} {ep : Nat} {t t2 : SetTable} {L1 : List κ}
    (ho : s.heap.get? a = some o) (hx : o.ExactSet) (hd : o.data = .set es ep t) (pr : Paired (Elt knd) es1.toList L1) (nd : L1.Nodup) (tb : Tbl w es1 t2) {was : Bool} {R : Option Bool → Shared → Prop}
    (hR : ∀ h', Heap.SameBut a s.heap h' → SetG knd h' a L1 → R (some true) { s with heap := h' }) :
    wpAny (model P w) A (storeSet a es1 t2 >>= fun _ => if (!was && t2.tooFull) = true then give (relayAll t2 es1 (SetTable.grown es1.size)).2.2 >>= fun _ => storeSet a (relayAll t2 es1 (SetTable.grown es1.size)).1 (relayAll t2 es1 (SetTable.grown es1.size)).2.1 >>= fun _ => pure (some true) else pure (some true)) R E s := by
  have sb := Heap.SameBut.update s.heap a (Obj.putSet es1 t2)
  have o1 := store_at (es' := es1) (t' := t2) ho hd
  refine wpAny_bind (wpAny_storeSet_of ho hd ?_ (fits_of_scanBound tb.few))
  by_cases full : (!was && t2.tooFull) = true
  · rw [if_pos full]
    have f1 := relayAll_perm t2 es1 (SetTable.grown es1.size)
    have f2 := relayAll_fits t2 es1 (SetTable.grown es1.size)
    have f3 := relayAll_ris t2 es1 (SetTable.grown es1.size)
    have f4 := relayAll_led t2 es1 (SetTable.grown es1.size)
    refine wpAny_bind (hg _ _ _ ?_)
    generalize relayAll t2 es1 (SetTable.grown es1.size) = Y at f1 f2 f3 f4 ⊢
    obtain ⟨es3, t3, y⟩ := Y
    have sz : es3.size = es1.size := by
      have := f1.length_eq
      simpa using this
    obtain ⟨L3, p3, q3⟩ := paired_perm f1 pr
    have few : es3.size < scanBound := sz ▸ tb.few
    refine wpAny_bind (wpAny_storeSet_of o1 rfl ?_ (fits_of_scanBound few))
    exact wpAny_pure (hR _ (sb.trans (Heap.SameBut.update _ a _)) ⟨_, es3, _, t3, L3, store_at o1 rfl, hx, rfl, p3, q3, nd, few, f2, f3, tb.led.imp id fun z => f4.trans z⟩)
  · rw [if_neg full]
    exact wpAny_pure (hR _ sb ⟨_, es1, _, t2, L1, o1, hx, rfl, pr, .refl _, nd, tb⟩)
theorem add_hashed {k : κ} {x : Value} {Q : Bool → Shared → Prop} (R : SetG knd s.heap a ks) (hk : knd.is k x = true) (hs : x.scannable = true) (room : ks.length + 1 < scanBound)
    (hQ : ∀ h', Heap.SameBut a s.heap h' → SetG knd h' a (SK.stepD ks k) → Q (!decide (k ∈ ks)) { s with heap := h' }) : wpAny (model P w) A (setAddHashed a x (knd.hash k)) Q E s := by
  obtain ⟨o, es, ep, t, L, ho, hx, hd, pr, pm, nd, tb⟩ := id R
  have el := elems pr
  have hsz : es.size = ks.length := by rw [← pm.length_eq, ← Paired.length pr, Array.length_toList]
  unfold setAddHashed setAddHashedIn
  refine wpAny_holding (wpAny_bind (wpAny_setState_of ho hd tb.fits ?_))
  dsimp only
  rw [byScan_of hs tb.few el, if_pos rfl]
  unfold setAddByScan
  refine wpAny_bind (wpAny_bind (wpAny_rule (wpAny_bind (wpAny_setScan_of hk ho hd tb.fits el ?_))))
  cases hf : List.findIdx? (fun e => knd.is k e.2) es.toList with
  | some j =>
    obtain ⟨hj, pj, _⟩ := List.findIdx?_eq_some_iff_getElem.mp hf
    obtain ⟨k2, h2, r2⟩ := paired_mem pr _ (List.getElem_mem hj)
    have hm : k ∈ ks := by
      have e : k2 = k := knd.inj _ _ _ r2.1.1 pj
      exact pm.mem_iff.mp (e ▸ h2)
    have q := hQ s.heap (Heap.SameBut.refl a s.heap) (by unfold SK.stepD; rw [if_pos hm]; exact R)
    rw [decide_eq_true hm] at q
    exact wpAny_pure (wpAny_pure q)
  | none =>
    have hm : k ∉ ks := fun z => by
      obtain ⟨e, he, r⟩ := paired_mem' pr k (pm.mem_iff.mpr z)
      have := List.findIdx?_eq_none_iff.mp hf e he
      rw [r.1.1] at this
      cases this
    have g0 : ∀ (b : Bool) (s1 : Shared) (Q1 : Unit → Shared → Prop), Q1 () s1 → wpAny (model P w) A (match b with | true => rule "set.scan.the-table-gave-way" | false => pure ()) Q1 E s1 := fun b s1 Q1 q => by
      cases b
      · exact wpAny_pure q
      · exact wpAny_rule q
    have f1 := layNew_perm t es (knd.hash k) x
    have f2 := layNew_fits t es (knd.hash k) x
    have f3 := layNew_ris t es (knd.hash k) x tb.ris
    have f4 := layNew_led t es (knd.hash k) x
    generalize layNew t es (knd.hash k) x = Y at f1 f2 f3 f4 ⊢
    obtain ⟨es1, t1, was, gave⟩ := Y
    dsimp only at f1 f2 f3 f4 ⊢
    rw [Array.toList_push] at f1
    have pr1 : Paired (Elt knd) (es.toList ++ [(knd.hash k, x)]) (L ++ [k]) := by
      clear hsz el hf hd tb f1 f2 f3 f4 pm
      generalize es.toList = l at pr
      induction pr with
      | nil => exact .cons ⟨⟨hk, rfl⟩, hs⟩ .nil
      | cons r _ ih => exact .cons r ih
    obtain ⟨L1, pr2, pm2⟩ := paired_perm f1 pr1
    have nd1 : L1.Nodup := pm2.nodup_iff.mpr ((List.perm_append_singleton k L).nodup_iff.mpr (List.nodup_cons.mpr ⟨fun z => hm (pm.mem_iff.mp z), pm.nodup_iff.mpr nd⟩))
    have few1 : es1.size < scanBound := by
      have := f1.length_eq
      rw [List.length_append, Array.length_toList, Array.length_toList, List.length_singleton] at this
      omega
    have led1 : w.params.followText "set-order" = true ∨ t1.led = true := tb.led.imp id fun z => f4.trans z
    have fin : ∀ h', Heap.SameBut a s.heap h' → SetG knd h' a L1 → Q true { s with heap := h' } := fun h' sb r => by
      have q := hQ h' sb (by
        unfold SK.stepD
        rw [if_neg hm]
        obtain ⟨o', es', ep', t', L', z1, z2, z3, z4, z5, z6, z7⟩ := r
        have pq : L1.Perm (ks ++ [k]) := pm2.trans (pm.append_right [k])
        exact ⟨o', es', ep', t', L', z1, z2, z3, z4, z5.trans pq, pq.nodup_iff.mp z6, z7⟩)
      rw [decide_eq_false hm] at q
      exact q
    refine wpAny_bind (g0 _ _ _ ?_)
    by_cases pl : t1.plain = true
    · rw [if_pos pl]
      refine wpAny_bind ?_
      rw [hashByValue_scannable 8 hs]
      refine wpAny_pure (lay_down g0 ho hx hd pr2 nd1 ?_ fun h' sb r => wpAny_pure (fin h' sb r))
      by_cases b : plainKind x = true
      · rw [if_pos b]; exact ⟨few1, f2, f3, led1⟩
      · rw [if_neg b]; exact ⟨few1, SetTable.fits_plain_off f2, f3, led1⟩
    · rw [if_neg pl]
      refine wpAny_bind (wpAny_pure ?_)
      rw [if_pos rfl]
      exact lay_down g0 ho hx hd pr2 nd1 ⟨few1, f2, f3, led1⟩ fun h' sb r => wpAny_pure (fin h' sb r)
end
end SG


set_option Elab.async false
set_option linter.all false
set_option maxRecDepth 100000
set_option maxHeartbeats 0
namespace SG
open PySem PySem.Spec PyProof.Rows L2
section
variable {prog : Program} {w : World} {A : Around} {R : Result → Shared → Prop} {I : Addr} {fp wr : List Addr} {G : Array GenState → Array GenState → Prop} {n : Nat} {Pv : Nat → Value → Prop} {St : Nat → Shared → Prop} {κ : Type} [DecidableEq κ]
theorem firstsN_len (val : Nat → κ) (i : Nat) : (SK.firstsN val i).length ≤ i := SK.firstsN_len val i
/-- the loop of set.update over anything that is walked -/
theorem update (knd : PySem.KeyKind prog w κ) (W : WalksS prog w A.in1 I fp wr G n Pv St) (S : Addr) (out : S ∉ fp) (val : Nat → κ) (hv : ∀ i v, Pv i v → knd.is (val i) v = true ∧ v.scannable = true) (few : n + 1 < scanBound) (m : Nat) :
    ∀ (i : Nat) (s : Shared), i + m = n → St i s → SetG knd s.heap S (SK.firstsN val i) → (∀ u, Moved (S :: wr) G s u → SetG knd u.heap S (SK.firstsN val n) → R (.ok (.ret .none)) u) → codeAny (model prog w) A (.builtin "set.update.loop" ⟨[.ref S, .ref I], []⟩) R s := by
  have outw : S ∉ wr := fun z => out (W.sub _ z)
  have more : ∀ b ∈ wr, b ∈ S :: wr := fun b z => List.mem_cons_of_mem _ z
  induction m with
  | zero =>
    intro i s e hst hS fin
    obtain rfl : i = n := e
    refine codeAny_builtin F.entry_set_update_loop ?_
    rw [Around.under_plainId F.plain_set_update_loop _]
    change wpAny _ A.in1 (pyNext (.ref I) >>= _) _ _ s
    refine wpAny_bind (W.done s _ _ hst fun u mv => ?_)
    change wpAny _ A.in1 (ret Value.none) _ _ u
    exact wpAny_pure (fin u (mv.mono more) (hS.keep fun o q => mv.heap S o outw q))
  | succ m ih =>
    intro i s e hst hS fin
    refine codeAny_builtin F.entry_set_update_loop ?_
    rw [Around.under_plainId F.plain_set_update_loop _]
    change wpAny _ A.in1 (pyNext (.ref I) >>= _) _ _ s
    refine wpAny_bind (W.item i s _ _ (by omega) hst fun v u hP hst2 mv => ?_)
    obtain ⟨q1, q2⟩ := hv i v hP
    have hS2 : SetG knd u.heap S (SK.firstsN val i) := hS.keep fun o q => mv.heap S o outw q
    change wpAny _ A.in1 (holding [v] (setAdd S v) >>= _) _ _ u
    unfold setAdd
    refine wpAny_bind (wpAny_holding (wpAny_holding (wpAny_bind (knd.pyHash (k := val i) q1 (add_hashed (s := { u with toks := u.toks + 1 }) hS2 q1 q2 (by have := SK.firstsN_len val i; omega) fun g sb hS3 => wpAny_pure ⟨plainId_quiet F.plain_set_update_loop _, ?_⟩)))))
    refine ih (i + 1) _ (by omega) (W.frame _ u _ _ hst2 (Nat.le_succ _) fun b hb o q => ?_) hS3 fun u2 mv2 hS4 => fin u2 (Moved.trans W.gtrans ((mv.mono more).then_heap (Nat.le_succ _) fun b o hb q => ?_) mv2) hS4
    · rw [sb.2 b fun z => out (z ▸ hb)]; exact q
    · rw [sb.2 b fun z => hb (z ▸ List.mem_cons_self)]; exact q
end
section
variable {P : Program} {w : World} {A : Around} {E : Value → Shared → Prop} {s : Shared} {κ : Type} [DecidableEq κ]
/-- set(xs), xs a list of keys -/
theorem made (knd : PySem.KeyKind P w κ) {l : Addr} {xs : Array Value} (ks : List κ) (d : κ) {Q : Value → Shared → Prop} (calm : A.handled = none) (isL : s.heap.IsList l xs) (hn : xs.size = ks.length)
    (hx : ∀ (i : Nat) (v : Value), xs[i]? = some v → knd.is (ks.getD i d) v = true ∧ v.scannable = true) (few : ks.length + 1 < scanBound)
    (q : ∀ (g : Heap) (k : Nat), SetG knd g s.heap.objs.size (SK.firsts ks) → (∀ b o, s.heap.get? b = some o → g.get? b = some o) → Q (.ref s.heap.objs.size) { s with heap := g, toks := k }) : wpAny (model P w) A (call (.type "set") [.ref l]) Q E s := by
  refine SL.call_two (M := fun ob t => ob = .ref s.heap.objs.size ∧ t = { s with heap := s.heap.push (SL.set0 w) }) PySem.F.called_set (PySem.F.typeCall_set_1 _) (L2.code_set_led1 _ ⟨rfl, rfl⟩) ?_
  rintro ob t ⟨rfl, rfl⟩
  have now : (s.heap.push (SL.set0 w)).get? s.heap.objs.size = some (SL.set0 w) := Heap.get?_push_size _ rfl
  have isS : Shared.TypeIs { s with heap := s.heap.push (SL.set0 w) } (.ref s.heap.objs.size) "set" := ⟨_, now, rfl⟩
  refine ⟨isS, codeAny_call_builtin PySem.F.called_set.init.plain PySem.F.entry_set_init (check_set_init_1 isS ?_)⟩
  have L1 : (s.heap.push (SL.set0 w)).IsList l xs := isL.push _
  have lS : l < s.heap.objs.size := let ⟨_, ho, _⟩ := isL; Heap.lt_size ho
  obtain ⟨⟨oc, od, dt, sl⟩, ho, hc, n, hd⟩ := id L1
  simp only at hc hd
  subst hc hd
  have f1 := PySem.F.sub_list_set
  have f2 := PySem.F.sub_list_frozenset
  have f3 : (Value.type "list" == Value.type "dict") = false := by decide
  unfold Builtin.«set.__init__» noKeywords Builtin.Frozenset.updateFrom
  generalize hI : pyIter = it
  wp_walk
  subst hI
  refine wpAny_pyIter_list L1 (wpAny_bind (wpAny_runValue ?_))
  have hz : (s.heap.push (SL.set0 w)).objs.size = s.heap.objs.size + 1 := Heap.size_push ..
  have c3 : A.in1.in1.in1.handled = none := by simp [calm]
  have ne : l ≠ (s.heap.push (SL.set0 w)).objs.size := Nat.ne_of_lt (hz ▸ Nat.lt_succ_of_lt lS)
  have out : s.heap.objs.size ∉ [(s.heap.push (SL.set0 w)).objs.size, l] := fun z => by
    simp only [List.mem_cons, List.not_mem_nil, or_false] at z
    exact z.elim (fun z => Nat.succ_ne_self _ (hz.symm.trans z.symm)) fun z => Nat.ne_of_gt lS z
  have S0 : SetG knd ((s.heap.push (SL.set0 w)).push { cls := .type "list_iterator", data := .fields #[.ref l, .int 0 0] }) s.heap.objs.size (SK.firstsN (fun i => ks.getD i d) 0) := (new_set s.heap).keep fun o e => Heap.get?_push_of_some _ e
  refine update knd (Walks.list c3 _ l ne xs).toS s.heap.objs.size out (fun i => ks.getD i d) hx (by omega) xs.size 0 _ (Nat.zero_add _) ⟨⟨_, Heap.get?_push_size _ rfl, rfl, rfl⟩, L1.push _⟩ S0 fun t m hS => ?_
  obtain ⟨g, g2, dr, k, o⟩ := t
  obtain rfl : g2 = s.gens := m.gens
  obtain rfl : dr = s.drawn := m.drawn
  obtain rfl : o = s.os := m.os
  rw [hn, SK.firstsN_list ks d ks.length (Nat.le_refl _), List.take_length] at hS
  refine wpAny_pure (wpAny_pure ⟨rfl, q g k hS fun b u e => ?_⟩)
  have hb := Heap.lt_size e
  refine m.heap b u (fun z => ?_) (Heap.get?_push_of_some _ (Heap.get?_push_of_some _ e))
  simp only [List.mem_cons, List.not_mem_nil, or_false] at z
  exact z.elim (fun z => Nat.ne_of_lt hb z) fun z => Nat.ne_of_lt (Nat.lt_succ_of_lt hb) (z.trans hz)
end
/-! texts in their order -/
def strLe (a b : Str) : Bool := decide (a.cps.toList ≤ b.cps.toList)
def sortS (zs : List Str) : List Str := (SK.firsts zs).mergeSort strLe
end SG


set_option Elab.async false
set_option linter.all false
set_option maxRecDepth 100000
set_option maxHeartbeats 0
namespace SG
open PySem PySem.Spec PyProof.Rows L2
section
variable {P : Program} {w : World} {A : Around} {E : Value → Shared → Prop} {s : Shared}
end
/-- sorted(set(xs)), xs a list of texts -/
def tSrtS (K : PySem.W.Frag) (ta : TE) : TE := fun σ H Q => ta σ H fun x H1 => ∃ (l : Addr) (zs : List Str), x = .ref l ∧ SqL K H1 l (zs.map V.str) ∧ zs.length ≤ 4000 ∧ ∀ p, H1 p = none → Q (.ref p) (upd H1 p (.lst ((sortS zs).map V.str)))
end SG
namespace Tr
open PySem PySem.Spec PyProof.Rows L2
variable [Tabl]
section
variable {X : Cx} {K : PySem.W.Frag} {A : Avoid} {H : Hp}
def wSrtS (a : WE) : WE := fun sl P => a sl fun x => ∃ zs : List Str, x.tree = some (.lst (zs.map T.str)) ∧ zs.length ≤ 4000 ∧ P (.val (.lst ((SG.sortS zs).map T.str)))
def srtSG (P : Sl → Prop) (x : Sl) : Prop := ∃ zs : List Str, x.tree = some (.lst (zs.map T.str)) ∧ zs.length ≤ 4000 ∧ P (.val (.lst ((SG.sortS zs).map T.str)))
variable {sl : List Sl} {P : Sl → Prop} {a : WE}
theorem x_srtS (h : a sl fun x => srtSG P x) : wSrtS a sl P := h
end
end Tr


set_option Elab.async false
set_option linter.all false
set_option maxRecDepth 100000
set_option maxHeartbeats 0
/-! a table laid anew finds room for all (masks 7, 15, 31, 63) -/
namespace SG
open PySem PySem.Spec PyProof.Rows L2
/-- the round from i -/
def round (m : Nat) : Nat → Nat → List Nat
  | 0, i => [i]
  | f + 1, i => i :: round m f ((i * 5 + 1) % (m + 1))
def MOk (m : Nat) : Prop := m = 7 ∨ m = 15 ∨ m = 31 ∨ m = 63
def allRounds (m : Nat) : Bool := (List.range (m + 1)).all fun i => (List.range (m + 1)).all fun j => (round m m i).contains j
theorem rounds7 : allRounds 7 = true := by decide +kernel
theorem rounds15 : allRounds 15 = true := by decide +kernel
theorem rounds31 : allRounds 31 = true := by decide +kernel
theorem rounds63 : allRounds 63 = true := by decide +kernel
theorem in_round {m : Nat} (hm : MOk m) {i j : Nat} (hi : i ≤ m) (hj : j ≤ m) : j ∈ round m m i := by
  have : allRounds m = true := by
    rcases hm with e | e | e | e <;> subst e
    · exact rounds7
    · exact rounds15
    · exact rounds31
    · exact rounds63
  have h1 := List.all_eq_true.mp this i (List.mem_range.mpr (by omega))
  have h2 := List.all_eq_true.mp h1 j (List.mem_range.mpr (by omega))
  exact List.contains_iff_mem.mp h2
abbrev vac (owner : Array (Option Nat)) (j : Nat) : Bool := (owner.getD j (some 0)).isNone
theorem free_go {m : Nat} {owner : Array (Option Nat)} {f i p : Nat} (h : SetTable.layClean.free m owner (f + 1) i p = none) (hi : i ≤ m) :
    vac owner i = false ∧ SetTable.layClean.free m owner f ((i * 5 + 1 + p / 32) % (m + 1)) (p / 32) = none := by
  unfold SetTable.layClean.free at h
  split at h
  · cases h
  · rename_i e
    refine ⟨?_, h⟩
    have hr : 0 < SetTable.runEnd m i + 1 - i := by unfold SetTable.runEnd; split <;> omega
    have := List.find?_eq_none.mp e 0 (List.mem_range.mpr hr)
    rw [Nat.add_zero] at this
    cases q : vac owner i with
    | false => rfl
    | true => exact (this q).elim
theorem free_some {m : Nat} {owner : Array (Option Nat)} : ∀ {f i p j : Nat}, SetTable.layClean.free m owner f i p = some j → i ≤ m → j ≤ m ∧ vac owner j = true
  | 0, _, _, _, h, _ => by cases h
  | f + 1, i, p, j, h, hi => by
    unfold SetTable.layClean.free at h
    split at h
    · rename_i k e
      cases h
      have h1 := List.find?_some e
      have h2 := List.mem_range.mp (List.mem_of_find?_eq_some e)
      refine ⟨?_, h1⟩
      unfold SetTable.runEnd at h2
      split at h2 <;> omega
    · exact free_some h (Nat.le_of_lt_succ (Nat.mod_lt _ (Nat.succ_pos m)))
theorem free_zero {m : Nat} {owner : Array (Option Nat)} : ∀ {f i : Nat}, SetTable.layClean.free m owner (f + 1) i 0 = none → i ≤ m → ∀ j ∈ round m f i, vac owner j = false
  | 0, i, h, hi, j, hj => by
    rw [List.mem_singleton.mp hj]
    exact (free_go h hi).1
  | f + 1, i, h, hi, j, hj => by
    obtain ⟨h1, h2⟩ := free_go h hi
    rcases List.mem_cons.mp hj with e | e
    · rw [e]; exact h1
    · exact free_zero h2 (Nat.le_of_lt_succ (Nat.mod_lt _ (Nat.succ_pos m))) j e
theorem free_down {m : Nat} {owner : Array (Option Nat)} {f : Nat} : ∀ {n i p : Nat}, p < 32 ^ n → SetTable.layClean.free m owner (n + f) i p = none → i ≤ m → ∃ i', i' ≤ m ∧ SetTable.layClean.free m owner f i' 0 = none
  | 0, i, p, hp, h, hi => ⟨i, hi, by
    have : p = 0 := by simpa using hp
    rw [Nat.zero_add] at h
    rw [this] at h; exact h⟩
  | n + 1, i, p, hp, h, hi => by
    rw [show n + 1 + f = (n + f) + 1 by omega] at h
    refine free_down (n := n) ?_ (free_go h hi).2 (Nat.le_of_lt_succ (Nat.mod_lt _ (Nat.succ_pos m)))
    rw [Nat.pow_succ] at hp
    exact Nat.div_lt_of_lt_mul (by omega)
theorem free_ok {m : Nat} (hm : MOk m) {owner : Array (Option Nat)} {j : Nat} (hj : j ≤ m) (hv : vac owner j = true) (h : Int) :
    ∃ j', SetTable.layClean.free m owner (SetTable.turns m) (SetTable.bits h % (m + 1)) (SetTable.bits h) = some j' ∧ j' ≤ m ∧ vac owner j' = true := by
  have hi : SetTable.bits h % (m + 1) ≤ m := Nat.le_of_lt_succ (Nat.mod_lt _ (Nat.succ_pos m))
  cases e : SetTable.layClean.free m owner (SetTable.turns m) (SetTable.bits h % (m + 1)) (SetTable.bits h) with
  | some j' => exact ⟨j', rfl, free_some e hi⟩
  | none =>
    have hb : SetTable.bits h < 32 ^ 14 := Nat.lt_of_lt_of_le (L2.bits_lt h) (by decide)
    unfold SetTable.turns at e
    rw [show m + 15 = 14 + (m + 1) by omega] at e
    obtain ⟨i', h1, h2⟩ := free_down hb e hi
    have := free_zero h2 h1 j (in_round hm h1 hj)
    rw [this] at hv; cases hv
/-- what stands in the slots -/
abbrev told (owner : Array (Option Nat)) : List Nat := owner.toList.filterMap id
theorem told_set {k : Nat} : ∀ {l : List (Option Nat)} {j : Nat}, l[j]? = some none → ((l.set j (some k)).filterMap id).Perm (k :: l.filterMap id)
  | [], _, h => by simp at h
  | x :: l, 0, h => by
    have : x = none := by simpa using h
    subst this
    exact .refl _
  | x :: l, j + 1, h => by
    have ih := told_set (k := k) (l := l) (j := j) (by simpa using h)
    cases x with
    | none => exact ih
    | some y => exact (ih.cons y).trans (.swap _ _ _)
theorem told_len : ∀ {l : List (Option Nat)}, (∀ j, j < l.length → l[j]? ≠ some none) → (l.filterMap id).length = l.length
  | [], _ => rfl
  | x :: l, h => by
    cases x with
    | none => exact (h 0 (Nat.succ_pos _) rfl).elim
    | some y =>
      show (l.filterMap id).length + 1 = _
      rw [told_len fun j hj e => h (j + 1) (Nat.succ_lt_succ hj) (by simpa using e)]
      rfl
structure Laid (m n : Nat) (owner : Array (Option Nat)) : Prop where
  sz : owner.size = m + 1
  pm : (told owner).Perm (List.range n)
theorem lay_step {m : Nat} (hm : MOk m) {n : Nat} {owner : Array (Option Nat)} (L : Laid m n owner) (hn : n ≤ m) (h : Int) :
    ∃ j, SetTable.layClean.free m owner (SetTable.turns m) (SetTable.bits h % (m + 1)) (SetTable.bits h) = some j ∧ Laid m (n + 1) (owner.setIfInBounds j (some n)) := by
  have room : ∃ j, j ≤ m ∧ owner.toList[j]? = some none := Classical.byContradiction fun z => by
    have := told_len (l := owner.toList) fun j hj e => z ⟨j, by rw [Array.length_toList, L.sz] at hj; omega, e⟩
    rw [L.pm.length_eq, List.length_range, Array.length_toList, L.sz] at this
    omega
  obtain ⟨j, hj, e⟩ := room
  have hv : vac owner j = true := by
    show (owner.getD j (some 0)).isNone = true
    rw [Array.getD_eq_getD_getElem?, ← Array.getElem?_toList, e]
    rfl
  obtain ⟨j', e1, e2, e3⟩ := free_ok hm hj hv h
  refine ⟨j', e1, by rw [Array.size_setIfInBounds]; exact L.sz, ?_⟩
  have e4 : owner.toList[j']? = some none := by
    have hlt : j' < owner.size := by rw [L.sz]; omega
    have e3 : (owner.getD j' (some 0)).isNone = true := e3
    rw [Array.getD_eq_getD_getElem?, Array.getElem?_eq_getElem hlt] at e3
    rw [Array.getElem?_toList, Array.getElem?_eq_getElem hlt]
    cases q : owner[j'] with
    | none => rfl
    | some x => rw [q] at e3; cases e3
  show ((owner.setIfInBounds j' (some n)).toList.filterMap id).Perm _
  rw [Array.toList_setIfInBounds, List.range_succ]
  exact (told_set e4).trans ((L.pm.cons n).trans (List.perm_append_singleton n _).symm)
theorem lay_fold {m : Nat} (hm : MOk m) : ∀ (hs : List Int) (n : Nat) (owner : Array (Option Nat)), Laid m n owner → n + hs.length ≤ m → ∃ o k, hs.foldl (L2.stepF m) (some (owner, n)) = some (o, k) ∧ Laid m (n + hs.length) o
  | [], n, owner, L, _ => ⟨owner, n, rfl, L⟩
  | h :: hs, n, owner, L, hl => by
    rw [List.length_cons] at hl
    obtain ⟨j, e, Lb⟩ := lay_step hm L (by omega) h
    obtain ⟨o, k, e2, L3⟩ := lay_fold hm hs (n + 1) _ Lb (by omega)
    refine ⟨o, k, ?_, by rw [List.length_cons, show n + (hs.length + 1) = n + 1 + hs.length by omega]; exact L3⟩
    rw [List.foldl_cons, show L2.stepF m (some (owner, n)) h = some (owner.setIfInBounds j (some n), n + 1) by unfold L2.stepF; simp [e]]
    exact e2
theorem lay_clean {m : Nat} (hm : MOk m) {hs : Array Int} (hn : hs.size ≤ m) : ∃ owner, SetTable.layClean m hs = some owner ∧ Laid m hs.size owner := by
  obtain ⟨o, k, e, L⟩ := lay_fold hm hs.toList 0 (Array.replicate (m + 1) none) ⟨Array.size_replicate, by
    show ((Array.replicate (m + 1) (none : Option Nat)).toList.filterMap id).Perm _
    rw [Array.toList_replicate]
    have : ∀ n, (List.replicate n (none : Option Nat)).filterMap id = [] := fun n => by induction n with
      | zero => rfl
      | succ n ih => rw [List.replicate_succ]; exact ih
    rw [this]; exact .refl _⟩ (by rw [Array.length_toList]; omega)
  rw [Nat.zero_add, Array.length_toList] at L
  exact ⟨o, by rw [L2.layClean_eq, e]; rfl, L⟩
theorem live_told {owner : Array (Option Nat)} {n : Nat} (hs : owner.size = n) : ((List.range n).filterMap fun j => (owner.getD j none).map (j, ·)).map (·.2) = told owner := by
  have key : ∀ n, n ≤ owner.size → ((List.range n).filterMap fun j => (owner.getD j none).map (j, ·)).map (·.2) = (owner.toList.take n).filterMap id := by
    intro n
    induction n with
    | zero => intro _; rfl
    | succ n ih =>
      intro hn
      have e : owner.getD n none = owner[n] := by rw [Array.getD_eq_getD_getElem?, Array.getElem?_eq_getElem hn]; rfl
      rw [List.range_succ, List.filterMap_append, List.map_append, ih (by omega), List.take_add_one, Array.getElem?_toList, Array.getElem?_eq_getElem hn, List.filterMap_append]
      congr 1
      show (List.filterMap (fun j => (owner.getD j none).map (j, ·)) [n]).map _ = List.filterMap id [owner[n]]
      cases q : owner[n] with
      | none => rw [List.filterMap_cons_none (by rw [e, q]; rfl)]; rfl
      | some x => rw [List.filterMap_cons_some (b := (n, x)) (by rw [e, q]; rfl)]; rfl
  rw [key n (by omega), List.take_of_length_le (by rw [Array.length_toList]; omega)]
theorem laid_ok {m : Nat} (hm : MOk m) {hs : Array Int} (hn : hs.size ≤ m) (f mv : Nat) (l p : Bool) :
    ∃ t order, SetTable.laid m f mv l p hs = some (t, order) ∧ order.toList.Perm (List.range hs.size) ∧ Ris t.place.toList ∧ t.place.size = hs.size ∧ t.dummies = #[] ∧ t.mask = m ∧ t.led = l := by
  obtain ⟨owner, e, L⟩ := lay_clean hm hn
  refine ⟨_, _, by unfold SetTable.laid; rw [e]; rfl, ?_, (ris_live (fun j => owner.getD j none) (List.range (m + 1)) (by unfold Ris; exact List.pairwise_lt_range)).1, ?_, rfl, rfl, rfl⟩
  · have := live_told L.sz
    show (((List.range (m + 1)).filterMap fun j => (owner.getD j none).map (j, ·)).map (·.2)).Perm _
    rw [this]; exact L.pm
  · have := congrArg List.length (live_told L.sz)
    rw [List.length_map] at this
    show (((List.range (m + 1)).filterMap fun j => (owner.getD j none).map (j, ·)).map (·.1)).toArray.size = _
    rw [List.size_toArray, List.length_map, this, L.pm.length_eq, List.length_range]
end SG


set_option Elab.async false
set_option linter.all false
set_option maxRecDepth 100000
set_option maxHeartbeats 0
namespace SG
open PySem PySem.Spec PyProof.Rows L2
theorem range_all {α : Type} (es : Array α) : (List.range es.size).filterMap (fun i => es[i]?) = es.toList := by
  have key : ∀ n, n ≤ es.size → (List.range n).filterMap (fun i => es[i]?) = es.toList.take n := by
    intro n
    induction n with
    | zero => intro _; rfl
    | succ n ih =>
      intro hn
      rw [List.range_succ, List.filterMap_append, ih (by omega), List.take_add_one, Array.getElem?_toList]
      congr 1
  rw [key es.size (Nat.le_refl _), List.take_of_length_le (by rw [Array.length_toList]; omega)]
theorem order_perm {α : Type} {es : Array α} {order : Array Nat} (p : order.toList.Perm (List.range es.size)) : (order.filterMap (es[·]?)).toList.Perm es.toList := by
  rw [Array.toList_filterMap]
  have := p.filterMap fun i => es[i]?
  rw [range_all] at this
  exact this
section
variable {P : Program} {w : World} {A : Around} {E : Value → Shared → Prop} {s : Shared} {κ : Type} [DecidableEq κ] {knd : PySem.KeyKind P w κ} {a : Addr} {ks : List κ}
def sizes : Bool := (List.range 90).all fun n => let m := SetTable.sizeAbove n - 1; (m == 7 || m == 15 || m == 31 || m == 63 || m == 127) && decide (n ≤ m) && decide (SetTable.sizeAbove n ≤ 4096) && (decide (63 < n) || m == 7 || m == 15 || m == 31 || m == 63)
theorem sizes_ok : sizes = true := by decide +kernel
theorem size_of {n : Nat} (h : n ≤ 62) : MOk (SetTable.sizeAbove n - 1) ∧ n ≤ SetTable.sizeAbove n - 1 ∧ SetTable.sizeAbove n ≤ 4096 := by
  have h1 := List.all_eq_true.mp sizes_ok n (List.mem_range.mpr (by omega))
  dsimp only at h1
  simp only [Bool.and_eq_true, Bool.or_eq_true, beq_iff_eq, decide_eq_true_iff] at h1
  obtain ⟨⟨⟨_, h3⟩, h4⟩, h5⟩ := h1
  refine ⟨?_, h3, h4⟩
  rcases h5 with ((( h | h) | h) | h) | h
  · omega
  · exact .inl h
  · exact .inr (.inl h)
  · exact .inr (.inr (.inl h))
  · exact .inr (.inr (.inr h))
/-- the table laid anew for more -/
theorem relay {wanted : Nat} (hw : wanted ≤ 62) {o : Obj} {es : Array (Int × Value)} {ep : Nat} {t : SetTable} (ho : s.heap.get? a = some o) (hd : o.data = .set es ep t) (hf : t.fits es.size = true) (few : es.size ≤ SetTable.sizeAbove wanted - 1) {Q : Unit → Shared → Prop}
    (hQ : ∀ es' t', es'.toList.Perm es.toList → t'.fits es'.size = true → Ris t'.place.toList → t'.dummies = #[] → t'.mask = SetTable.sizeAbove wanted - 1 → t'.led = t.led → Q () { s with heap := s.heap.update a (Obj.putSet es' t') }) : wpAny (model P w) A (setRelay a wanted) Q E s := by
  obtain ⟨hm, _, hz⟩ := size_of hw
  obtain ⟨t', order, e, pm, r, sz, dm, mk, ld⟩ := laid_ok hm (hs := es.map (·.1)) (by rw [Array.size_map]; exact few) t.finger (t.movedTo (SetTable.sizeAbove wanted - 1)) t.led t.plain
  rw [Array.size_map] at pm sz
  have p2 := order_perm pm
  have hs2 : (order.filterMap (es[·]?)).size = es.size := by
    have := p2.length_eq
    rwa [Array.length_toList, Array.length_toList] at this
  unfold setRelay
  refine wpAny_bind (wpAny_setState_of ho hd hf ?_)
  dsimp only
  refine wp_if_neg (by rw [sizeLine_eq]; omega) ?_
  try refine wpAny_bind (wpAny_pure ?_)
  rw [show SetTable.relaid t (es.map (·.1)) wanted = some (t', order) from e]
  refine wpAny_bind ?_
  wp_delta
  dsimp only
  refine wp_if_neg (by rw [hs2]; simp) ?_
  try refine wpAny_bind (wpAny_pure ?_)
  refine wpAny_pure ?_
  dsimp only
  have fits : t'.fits (order.filterMap (es[·]?)).size = true := by
    unfold SetTable.fits SetTable.fill
    rw [dm, hs2, Bool.and_eq_true, beq_iff_eq, decide_eq_true_iff, sz, mk]
    exact ⟨rfl, by simpa using few⟩
  exact wpAny_storeSet_of ho hd (hQ _ _ p2 fits r dm mk ld) (by rw [hs2, sizeLine_eq]; have : SetTable.sizeAbove wanted ≤ 4096 := hz; omega)
/-- what the copy of a set starts from: an empty table -/
theorem room_new {r : Addr} {n : Nat} (hr : s.heap.get? r = some (SL.set0 w)) (few : n ≤ 20) {Q : Unit → Shared → Prop}
    (hQ : ∀ h' ep t', Heap.SameBut r s.heap h' → h'.get? r = some { SL.set0 w with data := .set #[] ep t' } → t'.place = #[] → t'.dummies = #[] → MOk t'.mask → n ≤ t'.mask → (w.params.followText "set-order" = true ∨ t'.led = true) → Q () { s with heap := h' }) :
    wpAny (model P w) A (setRoomFor r n) Q E s := by
  have led : w.params.followText "set-order" = true ∨ (!w.params.followText "set-order") = true := by
    cases w.params.followText "set-order" <;> simp
  unfold setRoomFor
  refine wpAny_bind (wpAny_setState_of hr rfl (by rfl) ?_)
  dsimp only
  unfold SetTable.roomFor SetTable.fill
  by_cases h : ((SetTable.fresh 0 0 (!w.params.followText "set-order")).place.size + (SetTable.fresh 0 0 (!w.params.followText "set-order")).dummies.size + n) * 5 ≥ (SetTable.fresh 0 0 (!w.params.followText "set-order")).mask * 3
  · rw [if_pos h]
    dsimp only
    have hw : (0 + n) * 2 ≤ 62 := by omega
    obtain ⟨m1, m2, _⟩ := size_of hw
    refine relay (o := SL.set0 w) (wanted := (0 + n) * 2) hw hr rfl (by rfl) (Nat.zero_le _) fun es' t' pe hf ris dm mk ld => ?_
    have e0 : es' = #[] := by
      have := pe.length_eq
      rw [Array.length_toList] at this
      exact Array.eq_empty_of_size_eq_zero this
    subst e0
    have hp : t'.place = #[] := by
      unfold SetTable.fits at hf
      rw [Bool.and_eq_true, beq_iff_eq] at hf
      exact Array.eq_empty_of_size_eq_zero hf.1
    exact hQ _ _ t' (Heap.SameBut.update _ r _) (store_at hr rfl) hp dm (mk ▸ m1) (by rw [mk]; omega) (led.imp id fun z => by rw [ld]; exact z)
  · rw [if_neg h]
    exact wpAny_pure (hQ s.heap 0 _ (Heap.SameBut.refl r s.heap) hr rfl rfl (.inl rfl) (by
      have : (SetTable.fresh 0 0 (!w.params.followText "set-order")).mask = 7 := rfl
      have : (SetTable.fresh 0 0 (!w.params.followText "set-order")).place.size = 0 := rfl
      have : (SetTable.fresh 0 0 (!w.params.followText "set-order")).dummies.size = 0 := rfl
      omega) led)
/-- a set laid into a new one -/
theorem merge_new {r : Addr} {each : Sem Unit} (hr : s.heap.get? r = some (SL.set0 w)) (R : SetG knd s.heap a ks) (few : ks.length ≤ 20) {Q : Unit → Shared → Prop} (ne : r ≠ a)
    (hQ : ∀ h', Heap.SameBut r s.heap h' → SetG knd h' r ks → (ks = [] → h'.get? r = some (SL.set0 w)) → Q () { s with heap := h' }) : wpAny (model P w) A (setMerge r a each) Q E s := by
  obtain ⟨o, es, ep, t, L, ho, hx, hd, pr, pm, nd, tb⟩ := id R
  have hsz : es.size = ks.length := by rw [← pm.length_eq, ← Paired.length pr, Array.length_toList]
  unfold setMerge
  refine wp_if_neg (by simpa using ne) ?_
  try refine wpAny_bind (wpAny_pure ?_)
  refine wpAny_bind (wpAny_setState_of ho hd tb.fits ?_)
  dsimp only
  by_cases he : es.isEmpty = true
  · refine wp_if_pos he (wpAny_pure ?_)
    have : ks = [] := by
      have h0 : es.size = 0 := by simpa using he
      exact List.length_eq_zero_iff.mp (hsz ▸ h0)
    subst this
    exact hQ s.heap (Heap.SameBut.refl r s.heap) ⟨_, #[], 0, _, [], hr, ⟨rfl, rfl, rfl⟩, rfl, .nil, .refl _, .nil, by unfold scanBound; decide, by rfl, .nil, by cases w.params.followText "set-order" <;> simp [SetTable.fresh]⟩ fun _ => hr
  · have nk : ks ≠ [] := fun e => he (by rw [e] at hsz; simpa using hsz)
    refine wp_if_neg he ?_
    try refine wpAny_bind (wpAny_pure ?_)
    refine wpAny_bind (room_new hr (n := es.size) (by omega) fun h1 e1 t1 sb g1 p1 d1 m1 n1 l1 => ?_)
    have f1 : t1.fits (#[] : Array (Int × Value)).size = true := by
      unfold SetTable.fits SetTable.fill
      rw [p1, d1]; simp
    refine wpAny_bind (wpAny_setState_of g1 rfl f1 ?_)
    dsimp only
    have fl : (t1.fill != 0) = false := by unfold SetTable.fill; rw [p1, d1]; rfl
    unfold SetTable.road
    rw [if_neg (by rw [fl]; exact Bool.false_ne_true)]
    have fin : ∀ es2 t2, es2.toList.Perm es.toList → t2.fits es2.size = true → Ris t2.place.toList → (w.params.followText "set-order" = true ∨ t2.led = true) → wpAny (model P w) A (storeSet r es2 t2) Q E { s with heap := h1 } := fun es2 t2 q1 q2 q3 q4 => by
      have z2 : es2.size = es.size := by
        have := q1.length_eq
        rwa [Array.length_toList, Array.length_toList] at this
      have f2 : es2.size < scanBound := by rw [z2]; exact tb.few
      obtain ⟨L2', p2, q2'⟩ := paired_perm q1 pr
      exact wpAny_storeSet_of (s := { s with heap := h1 }) g1 rfl (hQ _ (sb.trans (Heap.SameBut.update _ r _)) ⟨_, es2, _, t2, L2', store_at g1 rfl, ⟨rfl, rfl, rfl⟩, rfl, p2, q2'.trans pm, nd, f2, q2, q3, q4⟩ fun e => (nk e).elim) (fits_of_scanBound f2)
    have led2 : w.params.followText "set-order" = true ∨ (t1.led && t.led) = true := by
      rcases l1 with h | h
      · exact .inl h
      · rcases tb.led with g | g
        · exact .inl g
        · exact .inr (by rw [h, g]; rfl)
    by_cases rd : (t1.mask == t.mask && t.dummies.isEmpty) = true
    · rw [if_pos rd]
      exact fin es _ (.refl _) (by have := tb.fits; unfold SetTable.fits SetTable.fill at this ⊢; exact this) tb.ris led2
    · rw [if_neg rd]
      obtain ⟨t', order, e, pm2, ris2, sz2, dm2, mk2, ld2⟩ := laid_ok m1 (hs := es.map (·.1)) (by rw [Array.size_map]; exact n1) t1.finger t1.moves (t1.led && t.led) (t1.plain && t.plain)
      rw [Array.size_map] at pm2 sz2
      have p2 := order_perm pm2
      have hs2 : (order.filterMap (es[·]?)).size = es.size := by
        have := p2.length_eq
        rwa [Array.length_toList, Array.length_toList] at this
      dsimp only
      rw [e]
      refine wpAny_bind ?_
      wp_delta
      dsimp only
      refine wp_if_neg (by rw [hs2]; simp) ?_
      try refine wpAny_bind (wpAny_pure ?_)
      refine wpAny_pure ?_
      dsimp only
      refine fin _ t' p2 ?_ ris2 (by rw [ld2]; exact led2)
      unfold SetTable.fits SetTable.fill
      rw [dm2, hs2, Bool.and_eq_true, beq_iff_eq, decide_eq_true_iff, sz2, mk2]
      exact ⟨rfl, by simpa using n1⟩
end
end SG


set_option Elab.async false
set_option linter.all false
set_option maxRecDepth 100000
set_option maxHeartbeats 0
namespace SG
open PySem PySem.Spec PyProof.Rows L2
section
variable {P : Program} {w : World} {A : Around} {E : Value → Shared → Prop} {s : Shared} {κ : Type} [DecidableEq κ] {knd : PySem.KeyKind P w κ} {a r : Addr} {ks ls : List κ}
theorem sets_quiet {Q : Bool → Shared → Prop} (R : SetG knd s.heap a ks) (T : SetG knd s.heap r ls) (h : Q true s) : wpAny (model P w) A (setsQuiet [a, r]) Q E s := by
  unfold setsQuiet
  refine wpAny_bind ?_
  refine wpAny_forIn_list _ (fun rest b u => u = s ∧ b.1 = none ∧ ∀ x ∈ rest, ∃ ms, SetG knd s.heap x ms) _ ?_ ?_ _ _ ⟨rfl, rfl, fun x hx => ?_⟩
  · rintro x rest b u ⟨rfl, hb, hx⟩
    obtain ⟨ms, o, es, ep, t, L, ho, _, hd, pr, _, _, tb⟩ := hx x List.mem_cons_self
    refine wpAny_bind (wpAny_setEntries_of ho hd tb.fits ?_)
    rw [← Array.forIn_toList]
    refine wpAny_bind (wpAny_forIn_list _ (fun rest b v => v = u ∧ b.1 = none ∧ ∀ e ∈ rest, e.2.scannable = true) _ ?_ ?_ _ _ ⟨rfl, rfl, fun e he => (elems pr e he).2⟩)
    · rintro ⟨i, y⟩ rest2 b2 v ⟨rfl, hb2, h2⟩
      have := h2 _ List.mem_cons_self
      cases y <;> first | (cases this; done) | exact wpAny_pure ⟨rfl, rfl, fun e he => h2 e (List.mem_cons_of_mem _ he)⟩
    · rintro ⟨b1, b2⟩ v ⟨rfl, hb2, _⟩
      have : b1 = none := hb2
      subst this
      exact wpAny_pure ⟨rfl, rfl, fun x h => hx x (List.mem_cons_of_mem _ h)⟩
  · rintro ⟨b1, b2⟩ u ⟨rfl, hb, _⟩
    have : b1 = none := hb
    subst this
    exact wpAny_pure h
  · rcases List.mem_cons.mp hx with rfl | hx
    · exact ⟨ks, R⟩
    · rw [List.mem_singleton.mp hx]; exact ⟨ls, T⟩
/-- the elements of a, for r -/
theorem walk_unseen (R : SetG knd s.heap a ks) (T : SetG knd s.heap r ls) (ne : r ≠ a) {Q : Array (Int × Value) → Shared → Prop}
    (hQ : ∀ es h' d L, Heap.SameBut r s.heap h' → SetG knd h' r ls → Paired (Elt knd) es.toList L → L.Perm ks → Q es { s with heap := h', drawn := d }) : wpAny (model P w) A (setWalkUnseen a [r] (some r)) Q E s := by
  obtain ⟨o, es, ep, t, L, ho, hx, hd, pr, pm, nd, tb⟩ := id R
  have given : ∀ (es' : Array (Int × Value)) d, es'.toList.Perm es.toList → Q es' { s with drawn := d } := fun es' d p => by
    obtain ⟨L1, p1, q1⟩ := paired_perm p pr
    exact hQ es' s.heap d L1 (Heap.SameBut.refl r s.heap) T p1 (q1.trans pm)
  unfold setWalkUnseen
  refine wpAny_bind (wpAny_setState_of ho hd tb.fits ?_)
  dsimp only
  refine wpAny_bind (wpAny_byText ?_)
  have plain : wpAny (model P w) A (setWalk a) Q E s := by
    unfold setWalk
    refine wpAny_bind (wpAny_setState_of ho hd tb.fits ?_)
    dsimp only
    refine wpAny_bind (wpAny_byText ?_)
    by_cases bt : w.params.followText "set-order" = true
    · refine wp_if_pos bt ?_
      exact wpAny_bind (wpAny_askSetting (wpAny_pure (given _ s.drawn (pick_perm _ _))))
    · refine wp_if_neg bt ?_
      try refine wpAny_bind (wpAny_pure ?_)
      by_cases dr : (!t.plain && decide (es.size > 1)) = true
      · refine wp_if_pos dr ?_
        refine wpAny_bind (drawOrder_at _ _ _ _ (Nat.le_of_eq Array.length_toList) fun ys d q => wpAny_pure (given _ d q))
      · refine wp_if_neg dr ?_
        try refine wpAny_bind (wpAny_pure ?_)
        have ld : t.led = true := tb.led.resolve_left bt
        refine wpAny_bind (wpAny_of_eq (a := ()) ?_ ?_)
        · show (if (!t.led && decide (es.size > 1)) = true then unsupported "set:maker-not-led" else pure ()) = pure ()
          rw [ld]; rfl
        · exact wpAny_pure (given es s.drawn (.refl _))
  by_cases c : (w.params.followText "set-order" || (t.led && t.plain) || decide (es.size ≤ 1)) = true
  · exact wp_if_pos c plain
  · refine wp_if_neg c ?_
    try refine wpAny_bind (wpAny_pure ?_)
    refine wpAny_bind (sets_quiet R T ?_)
    refine wp_if_neg (by decide) ?_
    try refine wpAny_bind (wpAny_pure ?_)
    refine wpAny_bind (wpAny_rule ?_)
    try dsimp only
    obtain ⟨o2, es2, ep2, t2, L2', ho2, hx2, hd2, pr2, pm2, nd2, tb2⟩ := id T
    refine wpAny_bind (wpAny_setState_of ho2 hd2 tb2.fits ?_)
    dsimp only
    have bt : ¬ w.params.followText "set-order" = true := fun z => c (by rw [z]; rfl)
    have ld : t.led = true := tb.led.resolve_left bt
    have ld2 : t2.led = true := tb2.led.resolve_left bt
    by_cases c2 : (t2.led && !t.led || t2.plain && !t.plain) = true
    · refine wp_if_pos c2 ?_
      refine wpAny_bind (wpAny_storeSet_of ho2 hd2 ?_ (fits_of_scanBound tb2.few))
      exact wpAny_pure (hQ es _ s.drawn L (Heap.SameBut.update _ r _) ⟨_, es2, _, _, L2', store_at ho2 hd2, hx2, rfl, pr2, pm2, nd2, tb2.few, tb2.fits, tb2.ris, .inr (by show (t2.led && t.led) = true; rw [ld, ld2]; rfl)⟩ pr pm)
    · refine wp_if_neg c2 ?_
      try refine wpAny_bind (wpAny_pure ?_)
      exact wpAny_pure (given es s.drawn (.refl _))
/-- both together -/
def joinK (ks ls : List κ) : List κ := ls.foldl SK.stepD ks
/-- a second set laid into one that has members already, or is new -/
theorem merge_more {each : Sem Unit} (R : SetG knd s.heap a ls) (T : SetG knd s.heap r ks) (fr : ks = [] → s.heap.get? r = some (SL.set0 w)) (few : ks.length ≤ 15) (few2 : ls.length ≤ 15) {Q : Unit → Shared → Prop} (ne : r ≠ a)
    (he : ∀ (u : Shared) (Q1 : Unit → Shared → Prop), (∀ o, s.heap.get? a = some o → u.heap.get? a = some o) → Q1 () u → wpAny (model P w) A each Q1 E u)
    (hQ : ∀ h' d ms, Heap.SameBut r s.heap h' → SetG knd h' r ms → (∀ k, k ∈ ms ↔ k ∈ ks ∨ k ∈ ls) → Q () { s with heap := h', drawn := d }) : wpAny (model P w) A (setMerge r a each) Q E s := by
  cases hk : ks with
  | nil =>
    subst hk
    exact merge_new (fr rfl) R (by omega) ne fun h' sb g _ => hQ h' s.drawn ls sb g fun k => ⟨.inr, fun z => z.elim (fun z => by cases z) id⟩
  | cons k0 kr =>
    obtain ⟨o, es, ep, t, L, ho, hx, hd, pr, pm, nd, tb⟩ := id R
    have hsz : es.size = ls.length := by rw [← pm.length_eq, ← Paired.length pr, Array.length_toList]
    unfold setMerge
    refine wp_if_neg (by simpa using ne) ?_
    try refine wpAny_bind (wpAny_pure ?_)
    refine wpAny_bind (wpAny_setState_of ho hd tb.fits ?_)
    dsimp only
    by_cases hemp : es.isEmpty = true
    · refine wp_if_pos hemp (wpAny_pure ?_)
      have : ls = [] := by
        have h0 : es.size = 0 := by simpa using hemp
        exact List.length_eq_zero_iff.mp (hsz ▸ h0)
      subst this
      exact hQ s.heap s.drawn ks (Heap.SameBut.refl r s.heap) T fun k => ⟨.inl, fun z => z.elim id fun z => by cases z⟩
    · refine wp_if_neg hemp ?_
      try refine wpAny_bind (wpAny_pure ?_)
      have room : wpAny (model P w) A (setRoomFor r es.size) (fun _ u => ∃ h', u = { s with heap := h' } ∧ Heap.SameBut r s.heap h' ∧ SetG knd h' r ks) E s := by
        obtain ⟨o2, es2, ep2, t2, M, ho2, hx2, hd2, pr2, pm2, nd2, tb2⟩ := id T
        have hs2 : es2.size = ks.length := by rw [← pm2.length_eq, ← Paired.length pr2, Array.length_toList]
        have hp2 : t2.place.size = es2.size := by
          have := tb2.fits
          unfold SetTable.fits at this
          rw [Bool.and_eq_true, beq_iff_eq] at this
          exact this.1
        unfold setRoomFor
        refine wpAny_bind (wpAny_setState_of ho2 hd2 tb2.fits ?_)
        dsimp only
        unfold SetTable.roomFor
        by_cases h : (t2.fill + es.size) * 5 ≥ t2.mask * 3
        · rw [if_pos h]
          dsimp only
          have hw : (t2.place.size + es.size) * 2 ≤ 62 := by omega
          obtain ⟨_, m2, _⟩ := size_of hw
          refine relay hw ho2 hd2 tb2.fits (by omega) fun es' t' pe hf ris dm mk ld => ⟨_, rfl, Heap.SameBut.update _ r _, ?_⟩
          obtain ⟨M1, q1, q2⟩ := paired_perm pe pr2
          have z : es'.size = es2.size := by
            have := pe.length_eq
            rwa [Array.length_toList, Array.length_toList] at this
          exact ⟨_, es', _, t', M1, store_at ho2 hd2, hx2, rfl, q1, q2.trans pm2, nd2, by rw [z]; exact tb2.few, hf, ris, tb2.led.imp id fun z => by rw [ld]; exact z⟩
        · rw [if_neg h]
          exact wpAny_pure ⟨s.heap, rfl, Heap.SameBut.refl r s.heap, T⟩
      refine wpAny_bind (wpAny_mono room (fun _ u hu => ?_) fun _ _ x => x)
      obtain ⟨h1, rfl, sb, T1⟩ := hu
      obtain ⟨o2, es2, ep2, t2, M, ho2, hx2, hd2, pr2, pm2, nd2, tb2⟩ := id T1
      refine wpAny_bind (wpAny_setState_of ho2 hd2 tb2.fits ?_)
      dsimp only
      have hs2 : es2.size = ks.length := by rw [← pm2.length_eq, ← Paired.length pr2, Array.length_toList]
      have hp2 : t2.place.size = es2.size := by
        have := tb2.fits
        unfold SetTable.fits at this
        rw [Bool.and_eq_true, beq_iff_eq] at this
        exact this.1
      have fl : (t2.fill != 0) = true := by
        unfold SetTable.fill
        rw [hp2, hs2, hk, List.length_cons]
        simp
      unfold SetTable.road
      rw [if_pos fl]
      dsimp only
      have R1 : SetG knd h1 a ls := R.keep fun o e => by rw [sb.2 a (Ne.symm ne)]; exact e
      refine wpAny_bind (walk_unseen (s := { s with heap := h1 }) R1 T1 ne fun es3 h2 d N sb2 T2 p3 q3 => ?_)
      rw [← Array.forIn_toList]
      have o1 : h2.get? a = some o := by rw [sb2.2 a (Ne.symm ne), sb.2 a (Ne.symm ne)]; exact ho
      refine wpAny_bind (wpAny_forIn_list (s := { s with heap := h2, drawn := d }) _ (fun rest _ u => ∃ h' N' ms, u = { s with heap := h', drawn := d, toks := u.toks } ∧ u.toks = s.toks ∧ Heap.SameBut r s.heap h' ∧ SetG knd h' r ms ∧ Paired (Elt knd) rest N' ∧ (∀ k, (k ∈ ms ∨ k ∈ N') ↔ k ∈ ks ∨ k ∈ ls) ∧ ms.length + N'.length ≤ 30) _ ?_ ?_ _ _ ⟨h2, N, ks, rfl, rfl, sb.trans sb2, T2, p3, fun k => by rw [q3.mem_iff], by rw [q3.length_eq]; omega⟩)
      · rintro ⟨i, y⟩ rest _ u ⟨h', N', ms, e1, e2, sb3, T3, p4, mm, cnt⟩
        cases p4 with
        | @cons _ k _ N2 rk pk =>
          obtain ⟨⟨k1, k2⟩, k3⟩ := rk
          have k2 : i = knd.hash k := k2
          subst k2
          obtain rfl : u = { s with heap := h', drawn := d } := by rw [e1, e2]
          rw [List.length_cons] at cnt
          refine wpAny_bind (wpAny_holding (add_hashed (s := { s with heap := h', drawn := d }) T3 k1 k3 (by unfold scanBound; omega) fun h3 sb4 T4 => ?_))
          have oa : ∀ o', s.heap.get? a = some o' → h3.get? a = some o' := fun o' e => by rw [(sb3.trans sb4).2 a (Ne.symm ne)]; exact e
          refine wpAny_bind (he _ _ oa ?_)
          refine wpAny_bind (wpAny_setState_of (oa o ho) hd tb.fits ?_)
          dsimp only
          refine wp_if_neg (by simp) ?_
          try refine wpAny_bind (wpAny_pure ?_)
          refine wpAny_pure ⟨h3, N2, SK.stepD ms k, rfl, rfl, sb3.trans sb4, T4, pk, fun x => ?_, ?_⟩
          · rw [SK.stepD_mem, ← mm x, List.mem_cons, or_assoc]
          · have := SK.stepD_len ms k
            split at this <;> omega
      · rintro _ u ⟨h', N', ms, e1, e2, sb3, T3, p4, mm, _⟩
        cases p4
        obtain rfl : u = { s with heap := h', drawn := d } := by rw [e1, e2]
        exact wpAny_pure (hQ h' d ms sb3 T3 fun k => ⟨fun z => (mm k).mp (.inl z), fun z => ((mm k).mpr z).elim id fun z => by cases z⟩)
end
end SG


set_option Elab.async false
set_option linter.all false
set_option maxRecDepth 100000
set_option maxHeartbeats 0
namespace SG
open PySem PySem.Spec PyProof.Rows L2
theorem entry_or : entryFor table "set.__or__" = some Builtin.«frozenset.__or__» := entryFor_alias (id' := "frozenset.__or__") (by kernel_rfl) rfl (by decide +kernel) (by kernel_rfl)
section
variable {P : Program} {w : World} {A : Around} {E : Value → Shared → Prop} {s : Shared} {κ : Type} [DecidableEq κ] {knd : PySem.KeyKind P w κ} {a b : Addr} {ks ls : List κ}
theorem any_set {Q : Bool → Shared → Prop} (h : s.TypeIs (.ref a) "set") (q : Q true s) : wpAny (model P w) A (Builtin.Frozenset.isAnySet (.ref a)) Q E s := by
  unfold Builtin.Frozenset.isAnySet orM
  refine wpAny_bind (wpAny_isInstance (b := true) h sub_set_self ?_)
  exact wpAny_pure q
/-- a set's copy -/
theorem copied (R : SetG knd s.heap a ks) (few : ks.length ≤ 20) {Q : Value → Shared → Prop}
    (hQ : ∀ h', (∀ b o, s.heap.get? b = some o → h'.get? b = some o) → SetG knd h' s.heap.objs.size ks → (ks = [] → h'.get? s.heap.objs.size = some (SL.set0 w)) → Q (.ref s.heap.objs.size) { s with heap := h' }) : wpAny (model P w) A (Builtin.Frozenset.copyOf a) Q E s := by
  have la : a < s.heap.objs.size := let ⟨_, _, _, _, _, ho, _⟩ := R; Heap.lt_size ho
  unfold Builtin.Frozenset.copyOf Builtin.Frozenset.baseOf newSet
  refine wpAny_bind (wpAny_bind (wpAny_isInstance (b := true) (R.is rfl) sub_set_self (wpAny_pure ?_)))
  rw [if_pos rfl]
  refine wpAny_bind (wpAny_bind (wpAny_byText ?_))
  dsimp only
  simp only [newObj]
  refine wpAny_bind (wpAny_alloc (wpAny_pure ?_))
  have now : (s.heap.push (SL.set0 w)).get? s.heap.objs.size = some (SL.set0 w) := Heap.get?_push_size _ rfl
  have R1 : SetG knd (s.heap.push (SL.set0 w)) a ks := R.keep fun o e => Heap.get?_push_of_some _ e
  unfold Builtin.Frozenset.addrOf
  refine wpAny_bind (wpAny_pure ?_)
  refine wpAny_bind (merge_new (s := { s with heap := s.heap.push (SL.set0 w) }) now R1 few (Nat.ne_of_gt la) fun h' sb g e => wpAny_pure ?_)
  exact hQ h' (fun b o q => by rw [sb.2 b (Nat.ne_of_lt (Heap.lt_size q))]; exact Heap.get?_push_of_some _ q) g e
/-- a | b of two sets of few members -/
theorem both {Q : Value → Shared → Prop} (R : SetG knd s.heap a ks) (T : SetG knd s.heap b ls) (f1 : ks.length ≤ 15) (f2 : ls.length ≤ 15) (ne : a ≠ b)
    (hQ : ∀ h' d ms, (∀ b o, s.heap.get? b = some o → h'.get? b = some o) → SetG knd h' s.heap.objs.size ms → (∀ k, k ∈ ms ↔ k ∈ ks ∨ k ∈ ls) → Q (.ref s.heap.objs.size) { s with heap := h', drawn := d }) :
    wpAny (model P w) A (binaryOp .BitOr (.ref a) (.ref b)) Q E s := by
  have lb : b < s.heap.objs.size := let ⟨_, _, _, _, _, ho, _⟩ := T; Heap.lt_size ho
  refine wpAny_binaryOp_same (op := .BitOr) (T := "set") (R.is rfl) (T.is rfl) PySem.F.fills_set_or PySem.F.slot_set_or (wpAny_call_entry PySem.F.slot_set_or (R.is rfl) entry_or ?_ (PySem.F.args_set_or_2 _ _))
  unfold Builtin.«frozenset.__or__»
  wp_delta
  refine wpAny_bind (wpAny_of_eq (a := (.ref a, .ref b)) (by rfl) ?_)
  dsimp only
  rw [if_neg Bool.false_ne_true]
  refine wpAny_bind ?_
  unfold andM
  refine wpAny_bind (any_set (R.is rfl) ?_)
  refine any_set (T.is rfl) ?_
  refine wp_if_neg (by decide) ?_
  unfold Builtin.Frozenset.addrOf
  refine wpAny_bind (wpAny_pure ?_)
  refine wpAny_bind ?_
  wp_delta
  refine wpAny_bind (copied R (by omega) fun h1 k1 g1 n1 => ?_)
  have T1 : SetG knd h1 b ls := T.keep fun o e => k1 b o e
  have nb : (Value.ref b != Value.ref a) = true := by
    simp only [bne_iff_ne, ne_eq, Value.ref.injEq]
    exact Ne.symm ne
  refine wp_if_pos nb ?_
  unfold Builtin.Frozenset.addrOf
  refine wpAny_bind (wpAny_pure (wpAny_bind (wpAny_holding ?_)))
  unfold Builtin.Frozenset.updateFrom
  refine wpAny_bind (any_set (s := { s with heap := h1 }) (T1.is rfl) ?_)
  rw [if_pos rfl]
  unfold Builtin.Frozenset.addrOf Builtin.Frozenset.merge
  refine wpAny_bind (wpAny_pure ?_)
  obtain ⟨o, es, ep, t, L, ho, hx, hd, pr, pm, nd, tb⟩ := id T1
  refine wpAny_bind (wpAny_setEpoch_of (s := { s with heap := h1 }) ho hd tb.fits ?_)
  refine merge_more (s := { s with heap := h1 }) T1 g1 n1 f1 f2 (Nat.ne_of_gt lb) (fun u Q1 k2 q => ?_) fun h2 d ms sb g2 mm => ?_
  · unfold Builtin.Frozenset.unchanged
    refine wpAny_bind (wpAny_setEpoch_of (k2 o ho) hd tb.fits ?_)
    refine wp_if_neg (by simp) ?_
    exact wpAny_pure q
  · refine wpAny_pure (wpAny_pure ⟨_, rfl, fun z => (nomatch z), hQ h2 d ms (fun c o q => ?_) g2 mm⟩)
    rw [sb.2 c (Nat.ne_of_lt (Heap.lt_size q))]
    exact k1 c o q
end
end SG


set_option Elab.async false
set_option linter.all false
set_option maxRecDepth 100000
set_option maxHeartbeats 0
namespace SG
open PySem PySem.Spec PyProof.Rows L2
/-- a set of texts, tracked -/
def SO (P : Program) (w : World) (p : Addr) (zs : List Str) : HO := .ext fun h => SetG (PySem.strKind P w) h p zs
/-- sorted(set(xs) | set(ys)), xs and ys lists of few texts -/
def tSrtU (P : Program) (w : World) (K : PySem.W.Frag) (ta tb : TE) : TE := fun σ H Q => ta σ H fun x H1 => ∃ (l : Addr) (zs : List Str), x = .ref l ∧ SqL K H1 l (zs.map V.str) ∧ zs.length ≤ 15 ∧ ∀ p, H1 p = none → tb σ (upd H1 p (SO P w p (SK.firsts zs))) fun y H2 => ∃ (m : Addr) (ws : List Str), y = .ref m ∧ SqL K H2 m (ws.map V.str) ∧ ws.length ≤ 15 ∧
  H2 p = some (SO P w p (SK.firsts zs)) ∧ ∀ p, H2 p = none → Q (.ref p) (upd H2 p (.lst ((sortS (zs ++ ws)).map V.str)))
end SG
namespace Tr
open PySem PySem.Spec PyProof.Rows L2
variable [Tabl]
section
variable {X : Cx} {K : PySem.W.Frag} {A : Avoid} {H : Hp}
def wSrtU (a b : WE) : WE := fun sl P => a sl fun x => ∃ zs : List Str, x.tree = some (.lst (zs.map T.str)) ∧ zs.length ≤ 15 ∧ b sl fun y => ∃ ws : List Str, y.tree = some (.lst (ws.map T.str)) ∧ ws.length ≤ 15 ∧ P (.val (.lst ((SG.sortS (zs ++ ws)).map T.str)))
def srtUG (b : WE) (sl : List Sl) (P : Sl → Prop) (x : Sl) : Prop := ∃ zs : List Str, x.tree = some (.lst (zs.map T.str)) ∧ zs.length ≤ 15 ∧ b sl fun y => ∃ ws : List Str, y.tree = some (.lst (ws.map T.str)) ∧ ws.length ≤ 15 ∧ P (.val (.lst ((SG.sortS (zs ++ ws)).map T.str)))
variable {sl : List Sl} {P : Sl → Prop} {a b : WE}
theorem x_srtU (h : a sl fun x => srtUG b sl P x) : wSrtU a b sl P := h
end
end Tr


set_option Elab.async false
set_option linter.all false
set_option maxRecDepth 100000
set_option maxHeartbeats 0
/-! == and != of lists whose members are data or dicts of data -/
namespace NX
open PySem PySem.SeqAt
open AutoSeq1 (wpAny_loadPart')
open MeetsSeq MeetsSeq2 MeetsSeq3 SeqRoads2
section
variable {prog : Program} {w : World}
end
end NX
namespace NX
open PySem PySem.SeqAt PySem.Calls PyProof.Rows
open AutoSeq1 (wpAny_loadPart')
open MeetsSeq MeetsSeq2 MeetsSeq3 SeqRoads2
section
variable {prog : Program} {w : World} {A : Around} {s : Shared}
end
end NX
namespace Tr
open PySem PySem.Spec PyProof.Rows L2
/-- members: data, or dicts of data -/
def itB (s t : T) : Bool := if (shp s && shp t) = true then eqB s t else match s, t with
  | .dct ks ts, .dct ls us => ks.length == ls.length && eqDB ks ts ls us
  | _, _ => false
def itOk (s t : T) : Bool := if (shp s && shp t) = true then true else match s, t with
  | .dct ks ts, .dct ls us => ts.all shp && us.all shp && decide ks.Nodup && decide (ks.length = ts.length)
  | _, _ => false
def eqLD : T → T → Option T
  | .lst as, .lst bs => if (as.length == bs.length && (as.zip bs).all fun p => itOk p.1 p.2) = true then some (.bl ((as.zip bs).all fun p => itB p.1 p.2)) else none
  | _, _ => none
def neLD : T → T → Option T
  | .lst as, .lst bs => if (as.length == bs.length && (as.zip bs).all fun p => itOk p.1 p.2) = true then some (.bl (!(as.zip bs).all fun p => itB p.1 p.2)) else none
  | _, _ => none
/-- the members, one by one -/
inductive ItsV (K : PySem.W.Frag) (H : Hp) : List V → List V → List (T × T) → Prop
  | nil : ItsV K H [] [] []
  | cons {v u : V} {vs us : List V} {s t : T} {ps : List (T × T)} (A B : Avoid) : Rep K A H v s → Rep K B H u t → itOk s t = true → ItsV K H vs us ps → ItsV K H (v :: vs) (u :: us) ((s, t) :: ps)
def rEqLD (K : PySem.W.Frag) : R2 := fun x y H Q => ∃ a b xs ys ps, x = .ref a ∧ y = .ref b ∧ SqL K H a xs ∧ SqL K H b ys ∧ ItsV K H xs ys ps ∧ Q (.bl (ps.all fun p => itB p.1 p.2)) H
def rNeLD (K : PySem.W.Frag) : R2 := fun x y H Q => ∃ a b xs ys ps, x = .ref a ∧ y = .ref b ∧ SqL K H a xs ∧ SqL K H b ys ∧ ItsV K H xs ys ps ∧ Q (.bl (!ps.all fun p => itB p.1 p.2)) H
section
variable [Tabl] {X : Cx} {pins : List (Addr × Obj)} {σ : L2.St} {H : Hp} {s : Shared}
variable {K : PySem.W.Frag} {A B : Avoid}
end
end Tr


set_option Elab.async false
set_option linter.all false
set_option maxRecDepth 100000
set_option maxHeartbeats 0
namespace L2
end L2
namespace Tr
open PySem PySem.Spec PyProof.Rows L2
variable [Tabl]
/-! ### 27. sets of texts, ranges that go down -/
section
variable {sl : List Sl} {P : Sl → Prop} {a b : WE} {q : List T → Prop}
def rgDG (P : List T → Prop) (xs : List Sl) : Prop := ∃ m n : Int, xs = [.val (.int m), .val (.int n), .val (.int (-1))] ∧ (-(2 ^ 62) ≤ m ∧ m < 2 ^ 62 ∧ -(2 ^ 62) ≤ n ∧ n < 2 ^ 62) ∧ P (downTo m (m - n).toNat)
theorem x_rgD {e : WA} (h : e sl fun xs => rgDG q xs) : wiRngD e sl q := h
theorem x_rgDv {m n : Int} (h1 : -(2 ^ 62) ≤ m) (h2 : m < 2 ^ 62) (h3 : -(2 ^ 62) ≤ n) (h4 : n < 2 ^ 62) (h : q (downTo m (m - n).toNat)) : rgDG q [.val (.int m), .val (.int n), .val (.int (-1))] := ⟨m, n, rfl, ⟨h1, h2, h3, h4⟩, h⟩
end
end Tr


set_option Elab.async false
set_option linter.all false
set_option maxRecDepth 100000
set_option maxHeartbeats 0
/-! try as a statement: clauses with and without a name -/
namespace Tr
open PySem PySem.Spec PyProof.Rows L2
variable [Tabl]
abbrev HdS := Value × Option (Nat × Str) × (Addr → Value → Option Addr → WS)
def goneK (i : Nat) (k : Ks) : Ks := ⟨fun sl => k.nx (sl.set i .any), k.rt, fun sl => k.bk (sl.set i .any), fun sl => k.ct (sl.set i .any)⟩
def hdSAll (w : Addr → Value → Option Addr → WS) (cls : Value) (o : XF) (k : Ks) (sl : List Sl) : Option (Nat × Str) → Prop
  | none => ∀ a d, w a cls d k sl
  | some j => ∃ t, o = some (j.2, t) ∧ ∀ a dd, w a cls (some dd) (goneK j.1 k) (sl.set j.1 (.val (.exc a dd j.2 t)))
def wHdsS (em : Value → Value → Option Bool) (cls : Value) (o : XF) (k : Ks) (sl : List Sl) : List HdS → Prop
  | [] => False
  | (c, j, w) :: r => ∃ b, em cls c = some b ∧ (b = true → hdSAll w cls o k sl j) ∧ (b = false → wHdsS em cls o k sl r)
def wTryS (em : Value → Value → Option Bool) (l : List HdS) (wb : WSX) : WS := fun k sl => wb (fun cls o sl' => wHdsS em cls o k sl' l) k sl
def toC (K : PySem.W.Frag) (l : List HdS) : List Clause := l.map fun x => (x.1, x.2.1.map (·.1), fun a cls d => sOf K (x.2.2 a cls d))
section
variable {X : Cx} {W : L2.WX}
inductive HdsS (X : Cx) : List ExceptHandler → List HdS → Prop
  | nil : HdsS X [] []
  | bare {x : Str} {c : Value} {w : Addr → Value → Option Addr → WS} {b : Stmt} {bs : List Stmt} {p q : Pos} {hds : List ExceptHandler} {l : List HdS} (nm : Names X x c)
      (run : ∀ (a : Addr) (oe : Obj) (cls : Value) (d : Option Addr) (pn : List (Addr × Obj)), Zc cls d oe → (∃ vs, oe.data = .fields vs) → GSs (X.suite a ((a, oe) :: pn)) (b :: bs) (w a cls d)) (more : HdsS X hds l) :
      HdsS X (.ExceptHandler (some (.Name x p)) none (b :: bs) q :: hds) ((c, none, w) :: l)
  | as {x n f : Str} {i : Nat} {c : Value} {w : Addr → Value → Option Addr → WS} {b : Stmt} {bs : List Stmt} {p q : Pos} {hds : List ExceptHandler} {l : List HdS} (nm : Names X x c) (at_ : X.N[i]? = some n) (loc : X.env.kindOf n = some .local)
      (run : ∀ (a : Addr) (oe : Obj) (cls : Value) (d : Option Addr) (pn : List (Addr × Obj)), Zc cls d oe → (∃ vs, oe.data = .fields vs) → GSs (X.suite a ((a, oe) :: pn)) (b :: bs) (w a cls d)) (more : HdsS X hds l) :
      HdsS X (.ExceptHandler (some (.Name x p)) (some n) (b :: bs) q :: hds) ((c, some (i, f), w) :: l)
theorem HdsS.c {hds : List ExceptHandler} {l : List HdS} (h : HdsS X hds l) : Clauses X hds (toC X.K l) := by
  induction h with
  | nil => exact .nil
  | bare nm run more ih => exact .bare nm (fun a oe cls d pn hz hf => run a oe cls d pn hz hf) ih
  | as nm at_ loc run more ih => exact .as nm at_ loc (fun a oe cls d pn hz hf => run a oe cls d pn hz hf) ih
/-- x = e, e may raise -/
def xAsg (e : WEX) (i : Nat) : WSX := fun R k sl => e (fun c o => R c o sl) sl fun x => storable x = true ∧ k.nx (sl.set i x)
end
/-! steps -/
section
variable {em : Value → Value → Option Bool} {l : List HdS} {wb : WSX} {k : Ks} {sl : List Sl}
theorem x_try (h : wb (fun cls o sl' => wHdsS em cls o k sl' l) k sl) : wTryS em l wb k sl := h
theorem x_asgX {e : WEX} {i : Nat} {R : RXs} (h : e (fun c o => R c o sl) sl fun x => storable x = true ∧ k.nx (sl.set i x)) : xAsg e i R k sl := h
end
end Tr


set_option Elab.async false
set_option linter.all false
set_option maxRecDepth 100000
set_option maxHeartbeats 0
/-! defs that call themselves, or one another: readings by fuel -/
namespace Tr
open PySem PySem.Spec PyProof.Rows L2
variable [Tabl]
section
variable {P : Program} {w : World} {K : PySem.W.Frag} {mg : Str → Option Value} {base : Heap} {x qual : Str} {params : Arguments} {body : List Stmt} {scope : Scope} {kws : List (Str × V)} {f : Addr} {fd : FuncData} {ps : List Str} {k : Nat}
theorem fn_zero : FnOk P w K mg base CX0 k f fd ps (spT K fun _ _ => False) :=
  ⟨fun vs H Q E h => by obtain ⟨_, _, _, _, _, _, _, _, z, _⟩ := h; exact z.elim, fun A outer s H args us vs Q E _ _ _ _ h => by obtain ⟨_, _, _, _, _, _, _, _, z, _⟩ := h; exact z.elim⟩
/-- what a def that calls itself is told of its own name -/
def SelfC (P : Program) (w : World) (K : PySem.W.Frag) (mg : Str → Option Value) (base : Heap) (x : Str) (f : Addr) (fd : FuncData) (ps : List Str) : Prop := ∀ (k : Nat) (wf : WF), FnOk P w K mg base CX0 k f fd ps (spT K wf) → CallD P w K mg base k x wf []
theorem SelfC.of (F : FunD K x qual params body scope [] kws f fd) (hm : mg x = some (.ref f))
    (h : ∀ (kV doc pm : Value) (an : Option Addr) (cdv ct : Value) (us : List Value), us.length = ps.length → bindArgs (PySem.W.fnOf x qual params body scope .none kV doc pm an cdv ct) ⟨us, []⟩ = pure (ps.zip us)) : SelfC P w K mg base x f fd ps := fun k wf G => CallD.of F G hm h
end
end Tr


set_option Elab.async false
set_option linter.all false
set_option maxRecDepth 100000
set_option maxHeartbeats 0
/-! `text in TABLE`, TABLE a dict of the module whose keys are texts -/
namespace Tr
open PySem PySem.Spec PyProof.Rows L2
variable [Tabl]
theorem isStr_inj {v : Value} {a b : Str} (h1 : v.isStr a = true) (h2 : v.isStr b = true) : a = b := by
  cases v <;> simp [Value.isStr] at h1 h2
  exact h1.symm.trans h2
def keysB (x : Str) (ks : List Str) (K : PySem.W.Frag) : Bool := match K.lookup (He.ga K x) with
  | some ⟨_, _, .dict es _, _⟩ => es.toList.all (fun e => !e.refKey && ks.any fun k => e.key.isStr k) && ks.all fun k => es.toList.any fun e => e.key.isStr k
  | _ => false
theorem nsIn_k {x : Str} {ks : List Str} {K : PySem.W.Frag} (h : keysB x ks K = true) (z : Str) : ∃ r, PySem.W.nsIn K (He.ga K x) z = some r ∧ r.isSome = decide (z ∈ ks) := by
  unfold keysB at h
  unfold PySem.W.nsIn
  split at h
  · rename_i c d es n sl e
    rw [e]
    rw [Bool.and_eq_true] at h
    obtain ⟨h1, h2⟩ := h
    simp only
    cases q : es.toList.find? fun e => e.key.isStr z with
    | some w =>
      refine ⟨_, rfl, ?_⟩
      have hw := List.find?_some q
      have hm := List.mem_of_find?_eq_some q
      have g := List.all_eq_true.mp h1 w hm
      rw [Bool.and_eq_true] at g
      obtain ⟨k, hk, e2⟩ := List.any_eq_true.mp g.2
      have hw : w.key.isStr z = true := hw
      rw [isStr_inj hw e2, decide_eq_true hk]; rfl
    | none =>
      have hr : (es.toList.any fun e => e.refKey) = false := by
        rw [List.any_eq_false]
        intro w hw
        have g := List.all_eq_true.mp h1 w hw
        rw [Bool.and_eq_true, Bool.not_eq_true'] at g
        rw [g.1]
        exact Bool.false_ne_true
      refine ⟨none, by rw [hr]; rfl, ?_⟩
      have hz : z ∉ ks := fun hz => by
        obtain ⟨w, hw, e2⟩ := List.any_eq_true.mp (List.all_eq_true.mp h2 z hz)
        exact List.find?_eq_none.mp q w hw e2
      rw [decide_eq_false hz]; rfl
  · cases h
/-- a dict of the module and its keys -/
def KIn (K : PySem.W.Frag) (w : World) (mg : Str → Option Value) (x : Str) (ks : List Str) : Prop := ∃ d es n, mg x = some (.ref d) ∧ KDict K w d es n ∧ ∀ z, ∃ r, PySem.W.nsIn K d z = some r ∧ r.isSome = decide (z ∈ ks)
theorem kin_ok {K : PySem.W.Frag} {w : World} {mg : Str → Option Value} {x : Str} {ks : List Str} (hm : mg x = some (.ref (He.ga K x))) (hd : ∃ es n, KDict K w (He.ga K x) es n) (h : keysB x ks K = true) : KIn K w mg x ks := by
  obtain ⟨es, n, D⟩ := hd
  exact ⟨_, es, n, hm, D, nsIn_k h⟩
def wKIn (neg : Bool) (ks : List Str) (a : WE) : WE := fun sl P => a sl fun y => ∃ z, y = .val (.str z) ∧ P (.val (.bl (if neg = true then !decide (z ∈ ks) else decide (z ∈ ks))))
section
variable {X : Cx}
theorem gt_kin {x : Str} {ks : List Str} {a : Expr} {wa : WE} {p pos : Pos} (d : KIn X.K X.w X.mg x ks) (hg : Gl X x) (ha : GE X a wa) (hm : behindInMarks .In (.Name x p) = false := by rfl) (hdb : (x == ("__debug__" : Str)) = false := by decide) : GT X (.Compare a [.In] [.Name x p] pos) (wB (wKIn false ks wa)) := by
  obtain ⟨d, es, n, hx, D, hn⟩ := d
  exact gt_of (pt_cmpR (op_in_kd D) ha (pe_glob (v := .ref d) hg hx rfl hdb) hm) fun F D A H σ sl P Q S hw q => ⟨F, D, A, sl, _, S, hw, fun u H1 y b1 ok hy => by
    obtain ⟨z, rfl, b, e0, hp⟩ := hy
    have r1 : Rep X.K A H1 u (.str z) := ok
    cases r1
    obtain ⟨r, e1, e2⟩ := hn z
    cases e0
    refine ⟨z, r, rfl, rfl, e1, _, rfl, q _ H1 b1 ?_⟩
    rw [e2]; exact hp⟩
end
section
variable {sl : List Sl} {P : Sl → Prop} {a : WE}
def kinG (neg : Bool) (ks : List Str) (P : Sl → Prop) (y : Sl) : Prop := ∃ z, y = .val (.str z) ∧ P (.val (.bl (if neg = true then !decide (z ∈ ks) else decide (z ∈ ks))))
theorem x_kin {neg : Bool} {ks : List Str} (h : a sl fun y => kinG neg ks P y) : wKIn neg ks a sl P := h
end
end Tr


set_option Elab.async false
set_option linter.all false
set_option maxRecDepth 100000
set_option maxHeartbeats 0
namespace My
open PySem PySem.Spec PyProof.Rows L2 Tr
def top (i : Nat) : Stmt := PySem.Challenge.pw_wholemoment_k55_errors_of_readers.main.body.getD i (.Pass ⟨0, 0, 0, 0⟩)
abbrev s_Reader___eq__ : Stmt := inClass (top 45) 1
abbrev s__law_roll : Stmt := top 51
abbrev s__law_pick : Stmt := top 52
abbrev s_is_whole : Stmt := top 11
abbrev s_is_within : Stmt := top 12
abbrev s_need_number : Stmt := top 13
abbrev s_Reader___init__ : Stmt := inClass (top 45) 0
abbrev s_are_ascending : Stmt := top 23
abbrev s_is_key : Stmt := top 19
abbrev s_is_value : Stmt := top 20
abbrev s_is_value_or_none : Stmt := top 21
abbrev s__is_setting : Stmt := top 25
abbrev s_is_deed : Stmt := top 22
abbrev s_need_deed : Stmt := top 24
abbrev s_Reader__twin : Stmt := inClass (top 45) 10
abbrev s_Reader_with_write : Stmt := inClass (top 45) 4
abbrev s__is_row_of_keys : Stmt := top 36
abbrev s__size_of_leaf : Stmt := top 35
abbrev s__size_of_sides : Stmt := top 34
abbrev s_size_within : Stmt := top 33
abbrev s_is_question : Stmt := top 39
abbrev s_need_question : Stmt := top 40
abbrev s_Reader_with_read : Stmt := inClass (top 45) 3
abbrev s__need_readers : Stmt := top 48
abbrev s_open_reads : Stmt := top 46
abbrev s_open_writes : Stmt := top 47
abbrev s_is_instant : Stmt := top 27
abbrev s_need_instant : Stmt := top 28
abbrev s_joined_floor : Stmt := top 30
abbrev s_Reader_answered : Stmt := inClass (top 45) 6
abbrev s_Reader_heard_done : Stmt := inClass (top 45) 7
abbrev s_Reader_dropped : Stmt := inClass (top 45) 8
abbrev s_Reader_fallen : Stmt := inClass (top 45) 9
abbrev s__law_dice : Stmt := top 50
abbrev s_InvalidNumber___init__ : Stmt := inClass (top 7) 0
abbrev s_Refused___init__ : Stmt := inClass (top 8) 0
abbrev s__law_met : Stmt := top 53
abbrev s__law_right : Stmt := top 54
abbrev s_law : Stmt := top 55
end My


set_option Elab.async false
set_option linter.all false
set_option maxRecDepth 100000
set_option maxHeartbeats 0
namespace My
open PySem PySem.Spec PyProof.Rows L2 Tr
def d0 : He.DefD := ⟨("Reader", some "__eq__"), "__eq__", "Reader.__eq__", defArgs s_Reader___eq__, defBody s_Reader___eq__, defScope s_Reader___eq__, [], []⟩
def d1 : He.DefD := ⟨("_law_roll", none), "_law_roll", "_law_roll", defArgs s__law_roll, defBody s__law_roll, defScope s__law_roll, [], []⟩
def d2 : He.DefD := ⟨("_law_pick", none), "_law_pick", "_law_pick", defArgs s__law_pick, defBody s__law_pick, defScope s__law_pick, [], []⟩
def d3 : He.DefD := ⟨("is_whole", none), "is_whole", "is_whole", defArgs s_is_whole, defBody s_is_whole, defScope s_is_whole, [], []⟩
def d4 : He.DefD := ⟨("is_within", none), "is_within", "is_within", defArgs s_is_within, defBody s_is_within, defScope s_is_within, [.int 999999999999999999999999999999999999999999999999999999999999], []⟩
def d5 : He.DefD := ⟨("need_number", none), "need_number", "need_number", defArgs s_need_number, defBody s_need_number, defScope s_need_number, [.int 0, .int 999999999999999999999999999999999999999999999999999999999999], []⟩
def d6 : He.DefD := ⟨("Reader", some "__init__"), "__init__", "Reader.__init__", defArgs s_Reader___init__, defBody s_Reader___init__, defScope s_Reader___init__, [], []⟩
def d7 : He.DefD := ⟨("are_ascending", none), "are_ascending", "are_ascending", defArgs s_are_ascending, defBody s_are_ascending, defScope s_are_ascending, [], []⟩
def d8 : He.DefD := ⟨("is_key", none), "is_key", "is_key", defArgs s_is_key, defBody s_is_key, defScope s_is_key, [], []⟩
def d9 : He.DefD := ⟨("is_value", none), "is_value", "is_value", defArgs s_is_value, defBody s_is_value, defScope s_is_value, [], []⟩
def d10 : He.DefD := ⟨("is_value_or_none", none), "is_value_or_none", "is_value_or_none", defArgs s_is_value_or_none, defBody s_is_value_or_none, defScope s_is_value_or_none, [], []⟩
def d11 : He.DefD := ⟨("_is_setting", none), "_is_setting", "_is_setting", defArgs s__is_setting, defBody s__is_setting, defScope s__is_setting, [], []⟩
def d12 : He.DefD := ⟨("is_deed", none), "is_deed", "is_deed", defArgs s_is_deed, defBody s_is_deed, defScope s_is_deed, [], []⟩
def d13 : He.DefD := ⟨("need_deed", none), "need_deed", "need_deed", defArgs s_need_deed, defBody s_need_deed, defScope s_need_deed, [], []⟩
def d14 : He.DefD := ⟨("Reader", some "_twin"), "_twin", "Reader._twin", defArgs s_Reader__twin, defBody s_Reader__twin, defScope s_Reader__twin, [], []⟩
def d15 : He.DefD := ⟨("Reader", some "with_write"), "with_write", "Reader.with_write", defArgs s_Reader_with_write, defBody s_Reader_with_write, defScope s_Reader_with_write, [], []⟩
def d16 : He.DefD := ⟨("_size_of_sides", none), "_size_of_sides", "_size_of_sides", defArgs s__size_of_sides, defBody s__size_of_sides, defScope s__size_of_sides, [], []⟩
def d17 : He.DefD := ⟨("_is_row_of_keys", none), "_is_row_of_keys", "_is_row_of_keys", defArgs s__is_row_of_keys, defBody s__is_row_of_keys, defScope s__is_row_of_keys, [], []⟩
def d18 : He.DefD := ⟨("_size_of_leaf", none), "_size_of_leaf", "_size_of_leaf", defArgs s__size_of_leaf, defBody s__size_of_leaf, defScope s__size_of_leaf, [], []⟩
def d19 : He.DefD := ⟨("size_within", none), "size_within", "size_within", defArgs s_size_within, defBody s_size_within, defScope s_size_within, [], []⟩
def d20 : He.DefD := ⟨("is_question", none), "is_question", "is_question", defArgs s_is_question, defBody s_is_question, defScope s_is_question, [], []⟩
def d21 : He.DefD := ⟨("need_question", none), "need_question", "need_question", defArgs s_need_question, defBody s_need_question, defScope s_need_question, [], []⟩
def d22 : He.DefD := ⟨("Reader", some "with_read"), "with_read", "Reader.with_read", defArgs s_Reader_with_read, defBody s_Reader_with_read, defScope s_Reader_with_read, [], []⟩
def d23 : He.DefD := ⟨("_need_readers", none), "_need_readers", "_need_readers", defArgs s__need_readers, defBody s__need_readers, defScope s__need_readers, [], []⟩
def d24 : He.DefD := ⟨("open_reads", none), "open_reads", "open_reads", defArgs s_open_reads, defBody s_open_reads, defScope s_open_reads, [], []⟩
def d25 : He.DefD := ⟨("open_writes", none), "open_writes", "open_writes", defArgs s_open_writes, defBody s_open_writes, defScope s_open_writes, [], []⟩
def d26 : He.DefD := ⟨("is_instant", none), "is_instant", "is_instant", defArgs s_is_instant, defBody s_is_instant, defScope s_is_instant, [], []⟩
def d27 : He.DefD := ⟨("need_instant", none), "need_instant", "need_instant", defArgs s_need_instant, defBody s_need_instant, defScope s_need_instant, [], []⟩
def d28 : He.DefD := ⟨("joined_floor", none), "joined_floor", "joined_floor", defArgs s_joined_floor, defBody s_joined_floor, defScope s_joined_floor, [], []⟩
def d29 : He.DefD := ⟨("Reader", some "answered"), "answered", "Reader.answered", defArgs s_Reader_answered, defBody s_Reader_answered, defScope s_Reader_answered, [], []⟩
def d30 : He.DefD := ⟨("Reader", some "heard_done"), "heard_done", "Reader.heard_done", defArgs s_Reader_heard_done, defBody s_Reader_heard_done, defScope s_Reader_heard_done, [], []⟩
def d31 : He.DefD := ⟨("Reader", some "dropped"), "dropped", "Reader.dropped", defArgs s_Reader_dropped, defBody s_Reader_dropped, defScope s_Reader_dropped, [], []⟩
def d32 : He.DefD := ⟨("Reader", some "fallen"), "fallen", "Reader.fallen", defArgs s_Reader_fallen, defBody s_Reader_fallen, defScope s_Reader_fallen, [], []⟩
def d33 : He.DefD := ⟨("_law_dice", none), "_law_dice", "_law_dice", defArgs s__law_dice, defBody s__law_dice, defScope s__law_dice, [], []⟩
def d34 : He.DefD := ⟨("_law_met", none), "_law_met", "_law_met", defArgs s__law_met, defBody s__law_met, defScope s__law_met, [], []⟩
def d35 : He.DefD := ⟨("_law_right", none), "_law_right", "_law_right", defArgs s__law_right, defBody s__law_right, defScope s__law_right, [], []⟩
def d36 : He.DefD := ⟨("law", none), "law", "law", defArgs s_law, defBody s_law, defScope s_law, [], []⟩
def d37 : He.DefD := ⟨("InvalidNumber", some "__init__"), "__init__", "InvalidNumber.__init__", defArgs s_InvalidNumber___init__, defBody s_InvalidNumber___init__, defScope s_InvalidNumber___init__, [], []⟩
def d38 : He.DefD := ⟨("Refused", some "__init__"), "__init__", "Refused.__init__", defArgs s_Refused___init__, defBody s_Refused___init__, defScope s_Refused___init__, [], []⟩
def fn : List He.DefD := [d0, d1, d2, d3, d4, d5, d6, d7, d8, d9, d10, d11, d12, d13, d14, d15, d16, d17, d18, d19, d20, d21, d22, d23, d24, d25, d26, d27, d28, d29, d30, d31, d32, d33, d34, d35, d36, d37, d38]
def fa : List He.Fa := [.glo "_law_roll", .glo "_law_pick", .glo "is_whole", .glo "is_within", .glo "need_number", .glo "are_ascending", .glo "is_key", .glo "is_value", .glo "is_value_or_none", .glo "_is_setting", .glo "is_deed", .glo "need_deed", .glo "_size_of_sides", .glo "_is_row_of_keys", .glo "_size_of_leaf", .glo "size_within", .glo "is_question", .glo "need_question", .glo "_need_readers", .glo "open_reads", .glo "open_writes", .glo "is_instant", .glo "need_instant", .glo "joined_floor", .glo "_law_dice", .glo "_law_met", .glo "_law_right", .glo "law", .cls "Reader", .noat "Reader" "floor", .noat "Reader" "open_write", .noat "Reader" "open_read", .noat "Reader" "write_number", .noat "Reader" "read_number", .noat "Reader" "place", .noat "Reader" "number", .free "isinstance", .glo "Reader", .free "int", .free "len", .free "bool", .int "MOST_WHOLE" 999999999999999999999999999999999999999999999999999999999999, .int "_MOST_READER" 5, .int "_MOST_PLACE" 6, .free "all", .free "zip", .int "MOST_KEY" 8, .free "str", .str "_LETTERS" "abcdefghijklmnopqrstuvwxyz", .int "MOST_VALUE" 999999999999, .free "tuple", .int "MOST_SET" 6, .mkr "Reader", .meth "Reader" "_twin", .glo "SIDES", .int "MAX_SIZE" 40, .int "MOST_AGE" 1000000, .free "max", .free "abs", .meth "Reader" "with_write", .meth "Reader" "with_read", .glo "Refused", .glo "InvalidNumber", .free "repr", .glo "InvalidQuestion", .glo "InvalidOperation", .glo "InvalidInstant", .glo "InvalidDeed", .meth "Reader" "answered", .meth "Reader" "heard_done", .meth "Reader" "dropped", .meth "Reader" "fallen", .free "range", .free "min", .free "IndexError", .free "ArithmeticError"]
def lamT (K : PySem.W.Frag) : List (Addr × Str) := [(He.tabOf K (He.codeOf K ("_law_right", none)), ("_law_right.<locals>." ++ "<lambda>" : Str)), (He.tabOf K (He.codeOf K ("law", none)), ("law.<locals>." ++ "<lambda>" : Str))]
def tabsNd (K : PySem.W.Frag) : Bool := decide ((lamT K).map Prod.fst).Nodup
def ex (K : PySem.W.Frag) : Bool := (insB "Reader" K && (valsT "SIDES" [("plus", (.int 2)), ("minus", (.int 2)), ("times", (.int 2)), ("least", (.int 2)), ("most", (.int 2)), ("less", (.int 2)), ("same", (.int 2)), ("both", (.int 2)), ("any", (.int 2)), ("if", (.int 3))] K && (keysB "SIDES" ["plus", "minus", "times", "least", "most", "less", "same", "both", "any", "if"] K && (isxB "Reader" "tuple" K && (xfdB "Refused" "reason" K && (xfdB "InvalidNumber" "given" K && (exB "InvalidDeed" K && (exB "InvalidQuestion" K && (exB "InvalidOperation" K && (exB "InvalidInstant" K && (oexB "InvalidNumber" "given" "IndexError" bmIndexError "IndexError.__new__" "IndexError.__init__" K && (oexB "Refused" "reason" "ArithmeticError" bmArithmeticError "ArithmeticError.__new__" "ArithmeticError.__init__" K && (emB ["InvalidDeed", "InvalidInstant", "InvalidOperation", "InvalidQuestion", "InvalidNumber", "Refused"] K && (tabsNd K && true))))))))))))))
def tbs : List He.Tab := [((fun K => He.ga K "SIDES"), ["plus", "minus", "times", "least", "most", "less", "same", "both", "any", "if"])]
def tf : List He.Defn := [("_law_right", none), ("law", none)]
end My


set_option Elab.async false
set_option linter.all false
set_option maxRecDepth 100000
set_option maxHeartbeats 0
/-! a dict written out: text keys, any values -/
namespace Tr
open PySem PySem.Spec PyProof.Rows L2
variable [Tabl]
section
variable {X : Cx}
inductive EDisp (X : Cx) (pos : Pos) : List (Option Expr) → List Expr → List Str → WA → Prop
  | nil : EDisp X pos [] [] [] waNil
  | cons {k v : Expr} {ks : List (Option Expr)} {vs : List Expr} {z : Str} {zs : List Str} {w : WE} {r : WA} (hk : PE X k (tC (.str z))) (hv : GE X v w) (more : EDisp X pos ks vs zs r) : EDisp X pos (some k :: ks) (v :: vs) (z :: zs) (waCons w r)
theorem EDisp.ok {pos : Pos} {keys : List (Option Expr)} {values : List Expr} {zs : List Str} {r : WA} (h : EDisp X pos keys values zs r) :
    ∃ trs, PPs X pos keys values trs ∧ zs.length = keys.length ∧ ∀ (F : Fx) (D A : Avoid) (H : Hp) (σ : L2.St) (sl : List Sl) (P : List Sl → Prop) (Q : List (V × V) → Hp → Prop), Sta X.K F D A H σ sl → r sl P →
      (∀ vs H' xs, Beh D H H' → Paired (SlOk X.K D F.A0 A H') vs xs → vs.length = zs.length → P xs → Q ((zs.zip vs).map fun kv => (V.str kv.1, kv.2)) H') → tPairs trs σ H Q := by
  induction h with
  | nil => exact ⟨[], pps_nil, rfl, fun F D A H σ sl P Q S hw q => q [] H [] (Beh.refl S) .nil rfl hw⟩
  | cons hk hv r ih =>
    obtain ⟨trs, p, l, run⟩ := ih
    refine ⟨_, pps_cons hk hv p, congrArg (· + 1) l, fun F D A H σ sl P Q S hw q => ?_⟩
    exact ⟨F, D, A, sl, _, S, hw, fun v H1 x b1 ok hx => run F D A H1 σ sl _ _ (S.beh b1) hx fun vs H2 xs b2 oks len hp => q (v :: vs) H2 (x :: xs) (b1.trans b2) (.cons (ok.mono S.dA b2) oks) (congrArg (· + 1) len) hp⟩
def wDDisp (zs : List Str) (a : WA) : WD := fun sl P => a sl fun xs => ∃ ts, trees xs = some ts ∧ P (zs.map .inr) ts
end
section
variable {sl : List Sl} {Q : List Key → List T → Prop} {a : WA}
def ddG (zs : List Str) (Q : List Key → List T → Prop) (xs : List Sl) : Prop := ∃ ts, trees xs = some ts ∧ Q (zs.map .inr) ts
theorem x_ddisp {zs : List Str} (h : a sl fun xs => ddG zs Q xs) : wDDisp zs a sl Q := h
end
end Tr


set_option Elab.async false
set_option linter.all false
set_option maxRecDepth 100000
set_option maxHeartbeats 0
/-! a dict's values walked; name = [.. for .. in a dict] -/
namespace Tr
open PySem PySem.Spec PyProof.Rows L2
variable [Tabl]
section
variable {X : Cx} {K : PySem.W.Frag}
abbrev mkV (_ : List Key) (ts : List T) : List T := ts
def di_vals : DIt K iVals mkV where
  J := Itd
  ti := fun t hd r => t _ ⟨_, _, _, rfl, hd, r⟩
  ok := fun n hd l r => .vals n hd l r
section
variable {y : Str} {py spos : Pos} {elt tg iter : Expr} {ifs : List Expr} {scope : Scope} {own : List (Str × Nat)} {pos : Pos} {wi : TE → TI} {mk : List Key → List T → List T} {tp : TE} {wp : WPD} {g : Tg} {wt : WT} {tt : TT} {we : WE}
end
end
end Tr


set_option Elab.async false
set_option linter.all false
set_option maxRecDepth 100000
set_option maxHeartbeats 0
/-! rules for sorted of a tuple -/
namespace Tr
open PySem PySem.Spec PyProof.Rows L2
variable [Tabl]
section
variable {sl : List Sl}
def sortTG (P : List T → Prop) (xs : List Sl) : Prop := ∃ ts, xs = [.val (.tup ts)] ∧ Srt ts ∧ P (sortT ts)
theorem x_sortedT {v : WA} {q : List T → Prop} (h : v sl fun xs => sortTG q xs) : wSortedT v sl q := h
theorem x_kin0 {P : Sl → Prop} {ks : List Str} {z : Str} {b : Bool} (e : decide (z ∈ ks) = b) (h : P (.val (.bl b))) : kinG false ks P (.val (.str z)) := ⟨z, rfl, e ▸ h⟩
def asgLG (is : List Nat) (f : List Sl → Prop) (sl : List Sl) (x : Sl) : Prop := ∃ ts, x = .val (.lst ts) ∧ ts.length = is.length ∧ f (setAll sl is ts)
theorem x_asgL {a : WE} {is : List Nat} {f : List Sl → Prop} {rt : Sl → Prop} {bk ct : List Sl → Prop} (h : a sl fun x => asgLG is f sl x) : wAsgL a is ⟨f, rt, bk, ct⟩ sl := h
theorem x_asgL2 {i j : Nat} {s t : T} {f : List Sl → Prop} (h : stG (fun r => stG f j (.val t) r) i (.val s) sl) : asgLG [i, j] f sl (.val (.lst [s, t])) := ⟨_, rfl, rfl, h⟩
end
end Tr


set_option Elab.async false
set_option linter.all false
set_option maxRecDepth 100000
set_option maxHeartbeats 0
/-! dicts with text keys and any trees, as lists of pairs; texts in lists -/
namespace My
open PySem PySem.Spec PyProof.Rows L2 Tr
abbrev Pg := List (Str × T)
abbrev gk (A : Pg) : List Key := A.map fun p => .inr p.1
abbrev gv (A : Pg) : List T := A.map fun p => p.2
abbrev gT (A : Pg) : T := .dct (gk A) (gv A)
abbrev gS (p : Str × T) : T := .tup [.str p.1, p.2]
def glk : Pg → Str → Option T
  | [], _ => none
  | p :: A, z => if p.1 = z then some p.2 else glk A z
def gf (A : Pg) (z : Str) : T := (glk A z).getD .non
def rplG (z : Str) (v : T) : Pg → Pg
  | [] => []
  | p :: A => (if p.1 = z then (p.1, v) else p) :: rplG z v A
def putG (z : Str) (v : T) (A : Pg) : Pg := if z ∈ A.map (·.1) then rplG z v A else A ++ [(z, v)]
def layG : Pg → Pg → Pg
  | [], A => A
  | p :: B, A => layG B (putG p.1 p.2 A)
section
variable [Tabl]
def dpG (P : Sl → Prop) (xs : List Sl) : Prop := ∃ ts kvt, xs = [.val (.lst ts)] ∧ pairsT ts = some kvt ∧ (kvt.map (·.1)).Nodup ∧ P (.val (.dct (kvt.map (·.1)) (kvt.map (·.2))))
end
/-! texts -/
theorem any_S {a : Str} : ∀ l : List Str, ((l.map T.str).any fun y => eqF y (.str a)) = decide (a ∈ l)
  | [] => rfl
  | z :: l => by
    rw [List.map_cons, List.any_cons, any_S l]
    show ((z == a) || decide (a ∈ l)) = _
    rw [Bool.eq_iff_iff, Bool.or_eq_true, decide_eq_true_iff, decide_eq_true_iff, List.mem_cons, beq_iff_eq]
    exact ⟨fun h => h.imp Eq.symm id, fun h => h.imp Eq.symm id⟩
theorem in_seq {neg : Bool} {a : Str} {t : T} {l : List Str} (e : t.seq = some (l.map T.str)) : isIn neg (.str a) t = some (.bl (if neg = true then !decide (a ∈ l) else decide (a ∈ l))) := by
  have h1 : (l.map T.str).all flatT = true := List.all_eq_true.mpr fun t ht => by
    obtain ⟨z, _, rfl⟩ := List.mem_map.mp ht
    rfl
  unfold isIn inT
  rw [e]
  dsimp only
  rw [if_pos (by rw [h1]; rfl), any_S l]
end My


set_option Elab.async false
set_option linter.all false
set_option maxRecDepth 100000
set_option maxHeartbeats 0
/-! a text in great letters -/
namespace Tr
open PySem PySem.Spec PyProof.Rows L2
variable [Tabl]
section
variable {X : Cx}
def wUpper (a : WE) : WE := fun sl P => a sl fun x => ∃ z, x = .val (.str z) ∧ z.length ≤ 1000000 ∧ P (.val (.str (Txt.upper z)))
def upG (P : Sl → Prop) (x : Sl) : Prop := ∃ z, x = .val (.str z) ∧ z.length ≤ 1000000 ∧ P (.val (.str (Txt.upper z)))
theorem x_upper {a : WE} {sl : List Sl} {P : Sl → Prop} (h : a sl fun x => upG P x) : wUpper a sl P := h
end
end Tr


set_option Elab.async false
set_option linter.all false
set_option maxRecDepth 100000
set_option maxHeartbeats 0
/-! x in y, y an own instance whose class has __contains__ -/
namespace L2
open PySem PySem.Spec PyProof.Rows PySem.W
section
variable {M : Model} {A : Around} {E : Value → Shared → Prop} {s : Shared} {K : Frag} {x C f : Addr} {y : Value} {ox : Obj} {od : Option Obj}
end
end L2
namespace Tr
open PySem PySem.Spec PyProof.Rows L2
variable [Tabl]
section
variable {X : Cx} {K : PySem.W.Frag}
def rInO (K : PySem.W.Frag) (C : Addr) (wf : WF) (E : XK) (neg : Bool) : R2 := fun x y H Q => (∃ a dx fs, y = .ref a ∧ H a = some (.ins C dx fs)) ∧ spT K wf [y, x] H (fun v H' => ∃ b, v = .bl b ∧ Q (.bl (if neg = true then !b else b)) H') E
def CtD (P : Program) (w : World) (K : PySem.W.Frag) (mg : Str → Option Value) (base : Heap) (k : Nat) (C : Addr) (wf : WF) : Prop :=
  ∃ (f : Addr) (fd : FuncData) (ps : List Str), FnOk P w K mg base CX0 k f fd ps (spT K wf) ∧ Meth K C "__contains__" f ∧ Binds K fd ps []
def wOwnIn (neg : Bool) (C : Addr) (wf : WF) (a b : WE) : WE := fun sl P => a sl fun x => b sl fun y => ∃ ns ts u, y = .val (.ins C ns ts) ∧ x = .val u ∧ wf [y, x] fun z => ∃ r, z = .val (.bl r) ∧ P (.val (.bl (if neg = true then !r else r)))
def inOG (neg : Bool) (C : Addr) (wf : WF) (P : Sl → Prop) (x y : Sl) : Prop := ∃ ns ts u, y = .val (.ins C ns ts) ∧ x = .val u ∧ wf [y, x] fun z => ∃ r, z = .val (.bl r) ∧ P (.val (.bl (if neg = true then !r else r)))
end
end Tr


set_option Elab.async false
set_option linter.all false
set_option maxRecDepth 100000
set_option maxHeartbeats 0
/-! == of tuples whose items are own instances, both answers -/
namespace OQ
open PySem PySem.SeqAt
open AutoSeq1 (wpAny_loadPart')
open MeetsSeq MeetsSeq2 MeetsSeq3 SeqRoads2 GQ
section
variable {prog : Program} {w : World} {A : Around} {R : Result → Shared → Prop}
end
section
variable {prog : Program} {w : World} {A : Around} {E : Value → Shared → Prop} {s : Shared}
end
end OQ


set_option Elab.async false
set_option linter.all false
set_option maxRecDepth 100000
set_option maxHeartbeats 0
namespace OQ
open PySem PySem.Spec PyProof.Rows L2 Tr
variable [Tabl]
section
variable {X : Cx}
/-- two rows of own instances, compared in turn -/
def lv (K : PySem.W.Frag) (C : Addr) (wf : WF) (E : XK) : List V → List V → Hp → (Bool → Hp → Prop) → Prop
  | [], [], H, Q => Q true H
  | [], _ :: _, H, Q => Q false H
  | _ :: _, [], H, Q => Q false H
  | x :: xs, y :: ys, H, Q => (∃ a dx fs, x = .ref a ∧ H a = some (.ins C dx fs)) ∧ (∃ b dx fs, y = .ref b ∧ H b = some (.ins C dx fs)) ∧ TyB K C y H ∧ (x = y → (∀ a o, K.lookup a = some o → H a = none) → lv K C wf E xs ys H Q) ∧
      (x ≠ y → spT K wf [x, y] H (fun v H' => ∃ b, v = .bl b ∧ (if b = true then lv K C wf E xs ys H' Q else Q false H')) E)
def rTupI (K : PySem.W.Frag) (C : Addr) (wf : WF) (E : XK) (neg : Bool) : R2 := fun x y H Q => ∃ a b xs ys, x = .ref a ∧ y = .ref b ∧ SqT K H a xs ∧ SqT K H b ys ∧ lv K C wf E xs ys H fun r H' => Q (.bl (if neg = true then !r else r)) H'
end
end OQ
namespace Tr
open PySem PySem.Spec PyProof.Rows L2 OQ
variable [Tabl]
section
variable {X : Cx} {K : PySem.W.Frag}
/-- two trees of one value -/
def Same (t u : T) : Prop := ∃ (K : PySem.W.Frag) (A : Avoid) (H : Hp) (v : V), (∀ a o, K.lookup a = some o → H a = none) ∧ Rep K A H v t ∧ Rep K A H v u
def lvT (C : Addr) (wf : WF) : List T → List T → (Bool → Prop) → Prop
  | [], [], k => k true
  | [], _ :: _, k => k false
  | _ :: _, [], k => k false
  | t :: ts, u :: us, k => (∃ ns vs, t = .ins C ns vs) ∧ (∃ ns vs, u = .ins C ns vs) ∧ tyOk C u ∧ (Same t u → lvT C wf ts us k) ∧ wf [.val t, .val u] fun z => ∃ r, z = .val (.bl r) ∧ (if r = true then lvT C wf ts us k else k false)
def wTupEq (C : Addr) (wf : WF) (a b : WE) : WE := fun sl P => a sl fun x => b sl fun y => ∃ ts us, x = .val (.tup ts) ∧ y = .val (.tup us) ∧ lvT C wf ts us fun r => P (.val (.bl r))
/-- plain trees: of one value there is one -/
def pl : Nat → T → Bool
  | _, .non => true
  | _, .bl _ => true
  | _, .int _ => true
  | _, .str _ => true
  | n + 1, .tup ts => ts.all (pl n)
  | n + 1, .ins _ _ ts => ts.all (pl n)
  | _, _ => false
/-- rules -/
def tupEqG (C : Addr) (wf : WF) (P : Sl → Prop) (x y : Sl) : Prop := ∃ ts us, x = .val (.tup ts) ∧ y = .val (.tup us) ∧ lvT C wf ts us fun r => P (.val (.bl r))
end
end Tr


set_option Elab.async false
set_option linter.all false
set_option maxRecDepth 100000
set_option maxHeartbeats 0
/-! new instances that a call gives back, and that are changed before they are given on -/
namespace Tr
open PySem PySem.Spec PyProof.Rows L2
variable [Tabl]
section
variable {X : Cx} {K : PySem.W.Frag}
/-- a def that gives back a new instance of C -/
def spF (K : PySem.W.Frag) (C : Addr) (wf : WM) : Sp := fun vs H Q _ => ∃ D A xs kf, (∀ d ∈ D, MovAt H d) ∧ (∀ d ∈ D, d ∈ A) ∧ Liv D A H ∧ Paired (ArgOk K D A H) vs xs ∧ wf xs kf ∧
  ∀ p dx H' ns ws ts, Beh D H H' → H p = none → H dx = none → H' p = some (.ins C dx (ns.zip ws)) → H' dx = some (.own p) → ns.length = ws.length → RepAll K (p :: dx :: A) H' ws ts → kf ns ts → Q (.ref p) H'
abbrev WSF := (List Str → List T → Prop) → List Sl → Prop
/-- rows that end with the new instance -/
def sfOf (K : PySem.W.Frag) (C : Addr) (w : WSF) : TS := fun E σ H => ∃ (F : Fx) (D A : Avoid) (sl : List Sl) (kf : List Str → List T → Prop), Sta K F D A H σ sl ∧ w kf sl ∧
  ∀ D' A' H' σ' sl' i p ns ts, Sta K F D' A' H' σ' sl' → SelfAt K F D' A' H' σ' i p C ns ts → kf ns ts → E.rt (.ref p) H'
abbrev GSF (X : Cx) (C : Addr) (sts : List Stmt) (w : WSF) : Prop := PSs X sts (sfOf X.K C w)
def bfOf (K : PySem.W.Frag) (i : Nat) (C : Addr) (w : WN) : TS := fun E σ H => ∃ (F : Fx) (D A : Avoid) (sl : List Sl) (p : Addr) (ns : List Str) (ts : List T) (kf : List Str → List T → Prop), Sta K F D A H σ sl ∧ SelfAt K F D A H σ i p C ns ts ∧ w kf sl ns ts ∧
  ∀ D' A' H' σ' sl' i p ns ts, Sta K F D' A' H' σ' sl' → SelfAt K F D' A' H' σ' i p C ns ts → kf ns ts → E.rt (.ref p) H'
abbrev GBF (X : Cx) (i : Nat) (C : Addr) (sts : List Stmt) (w : WN) : Prop := PSs X sts (bfOf X.K i C w)
theorem gbf_ret {i : Nat} {C : Addr} {y : Str} {p0 pos : Pos} (hN : X.N[i]? = some y := by rfl) (hv : Vis X.env.scope y := by first | exact Or.inl rfl | exact Or.inr (Or.inl rfl) | exact Or.inr (Or.inr rfl))
    (hd : (y == ("__debug__" : Str)) = false := by decide) (hcd : (y == ("__classdict__" : Str)) = false := by decide) : GBF X i C [.Return (some (.Name y p0)) pos] wnNext := ⟨fun pins sh σ H E I ⟨F, D, A, sl, p, ns, ts, kf, S, s, hw, q⟩ =>
  (pss_one (ps_ret (pe_var hN hv hd hcd))).run pins sh σ H E I ⟨.ref p, s.slot, q D A H σ sl i p ns ts S s hw⟩⟩
theorem gbf_cons {i : Nat} {C : Addr} {st : Stmt} {rest : List Stmt} {a b : WN} (h : GN X i C st a) (h2 : GBF X i C rest b) : GBF X i C (st :: rest) (wnSeq a b) := ⟨fun pins sh σ H E I ⟨F, D, A, sl, p, ns, ts, kf, S, s, hw, q⟩ =>
  (pss_cons h h2).run pins sh σ H E I ⟨F, D, A, sl, p, ns, ts, _, S, s, hw, fun H' ns' ts' S' s' hb => ⟨F, D, A, sl, p, ns', ts', kf, S', s', hb, q⟩⟩⟩
def wMkF (i : Nat) (dts : List T) (wf : WM) (a : WA) (b : WN) : WSF := fun kf sl => a sl fun xs => xs.all isArg = true ∧ wf (xs ++ dts.map Sl.val) fun ns ts => i < sl.length ∧ b kf (sl.set i .any) ns ts
theorem gsf_mk (i : Nat) {k j : Nat} {C : Addr} {dts : List T} {wf : WM} {x y : Str} {e : Expr} {es : List Expr} {rest : List Stmt} {a : WA} {b : WN} {p p2 pos pos' : Pos} (d : MakeP X.prog X.w X.K X.mg X.base k x C dts wf) (hr : Room j X.A) (hg : Gl X x) (ha : GA X (e :: es) a) (hrest : GBF X i C rest b) (hNd : X.N.Nodup) (hkj : k + 1 ≤ j := by decide)
    (hi : X.N[i]? = some y := by rfl) (hx : Loc X.env.scope y := by first | exact Or.inl rfl | exact Or.inr rfl) (hf : X.fn y = true ∨ X.env.scope.names.lookup y = some .local := by first | exact .inl rfl | exact .inr rfl)
    (hdb : (x == ("__debug__" : Str)) = false := by decide) (he : starEach (e :: es) X.env = (false, eval e X.env) :: starEach es X.env := by rfl) (hpl : (backTo pos (starEach es X.env)).any (·.1) = false := by rfl)
    (hs : swapsWithSole [.Name y p2] (.Call (.Name x p) (e :: es) [] pos) pos'.line X.env = pure false := by rfl) (hw : swappedStores [.Name y p2] (.Call (.Name x p) (e :: es) [] pos) X.env = pure none := by rfl) (h1 : (assignEach [.Name y p2] X.env).map (·.2) = [assign (.Name y p2) X.env] := by rfl) :
    GSF X C (.Assign [.Name y p2] (.Call (.Name x p) (e :: es) [] pos) pos' :: rest) (wMkF i dts wf a b) := by
  obtain ⟨f, fd, ps, ds, dvs, M, F0, hm, hb, hd, hr2⟩ := d
  refine ⟨fun pins sh σ H E I ⟨F, D, A, sl, kf, S, hwd, q4⟩ => (pss_cons (ps_asg (pe_make M F0 (hr.mono hkj) hg hm hb hd pass0 ha hdb he hpl) (pg_name hNd hi hx hf) hs hw h1) hrest).run pins sh σ H E I ?_⟩
  refine ⟨F, D, A, sl, _, S, hwd, fun vs H1 xs b1 oks hx => ?_⟩
  obtain ⟨e1, hp⟩ := hx
  have S1 := S.beh b1
  refine fun x dx hx hdx hne => ⟨D, A, x, dx, vs ++ dvs, H1, _, _, rfl, rfl, hx, hdx, hne, S1.dice, S1.dA, S1.liv, Paired.app (args_ok oks e1) ((hr2 A H1).args (D := D)), hp, fun H' dx' ns ws ts be g1 g2 g2' g3 g4 g5 hP => ⟨rfl, ?_⟩⟩
  have hxA : x ∉ A := fun z => S1.alive x z hx
  have S2 := S1.growL be (ps := [x, dx']) (fun q hq => by
    rcases List.mem_cons.mp hq with z | z
    · rw [z]; exact hx
    · rw [List.mem_singleton.mp z]; exact g2') (fun q hq => by
    rcases List.mem_cons.mp hq with z | z
    · rw [z, g1]; exact fun z => nomatch z
    · rw [List.mem_singleton.mp z, g3]; exact fun z => nomatch z)
  have S3 : Sta X.K F D ([x, dx'] ++ A) H' (σ.set i (some (.ref x))) (sl.set i .any) := { S2 with
    slots := Slots.set_any S2.slots
    dist := S2.dist.set fun _ _ z => nomatch z }
  have hlt : i < σ.length := by rw [Paired.length_eq S.slots]; exact hP.1
  exact ⟨F, D, _, _, x, ns, ts, kf, S3, ⟨List.getElem?_set_self hlt, dx', ws, List.mem_cons_self, fun z => hxA (S.sub x z), fun z => hxA (S.dA x z), List.mem_cons_of_mem _ List.mem_cons_self, fun z => g2 (S.sub dx' z), fun z => g2 (S.dA dx' z), g1, g3, g4, g5⟩, hP.2, q4⟩
def wDefF (n m : Nat) (ws : WSF) : WM := fun xs kf => xs.length = n ∧ ws kf (xs ++ List.replicate m .any)
end
section
variable {P : Program} {w : World} {K : PySem.W.Frag} {mg : Str → Option Value} {base : Heap}
theorem fn_treeF {C : Addr} {x qual : Str} {params : Arguments} {body : List Stmt} {scope : Scope} {dvs : List V} {kws : List (Str × V)} {f : Addr} {fd : FuncData} {N ps : List Str} {k n m : Nat} {ws : WSF} (F : FunD K x qual params body scope dvs kws f fd) (S : FnScope N ps scope) (hn : ps.length = n) (hm : N.length - n = m)
    (hb : ∀ (cdv : Value) (A : Around) (outer : List Env) (s : Shared) (H : Hp) (E : XK), Room k (A.deeper (envOfC qual scope s.heap.objs.size f cdv)) → GSF (cxOf CX0 P w K mg base N qual scope f cdv A outer s H E).nox C body ws) :
    FnOk P w K mg base CX0 (k + 1) f fd ps (spF K C (wDefF n m ws)) := by
  refine F.ok S (fun vs H Q E h => ?_) (fun cdv A outer s H vs Q E hr h => ?_)
  · obtain ⟨D, A, xs, P', _, _, _, h4, h5, _⟩ := h
    rw [Paired.length_eq h4, h5.1, hn]
  · obtain ⟨D, A', xs, kf, h1, h2, h3, h4, h5, q⟩ := h
    refine ⟨_, PSs.nox (hb cdv A outer s H E hr), ⟨D, A', H, [], []⟩, D, A', _, kf, start_sta h1 h2 h3 h4 (m := m) (by rw [Paired.length_eq h4, h5.1]; exact hm), h5.2, fun D' A2 H' σ' sl' i p ns ts S' s hk => ?_⟩
    obtain ⟨dx, vs, g1, g2, g3, g4, g5, g6, g7, g8, g9, g10⟩ := s.obj
    refine q p dx H' ns vs ts ⟨S'.ext, S'.keep⟩ ((S'.base p g1).resolve_left g2) ((S'.base dx g4).resolve_left g5) g7 g8 g9 (g10.sub fun a ha => ?_) hk
    rcases List.mem_cons.mp ha with z | z
    · rw [z]; exact g1
    rcases List.mem_cons.mp z with z | z
    · rw [z]; exact g4
    · exact S'.sub a z
end
section
variable {X : Cx} {K : PySem.W.Frag}
def MethF (P : Program) (w : World) (K : PySem.W.Frag) (mg : Str → Option Value) (base : Heap) (k : Nat) (C0 : Addr) (m : Str) (C : Addr) (wf : WM) (dvs : List V) : Prop :=
  ∃ (f : Addr) (fd : FuncData) (ps : List Str) (ds : List Value), FnOk P w K mg base CX0 k f fd ps (spF K C wf) ∧ Meth K C0 m f ∧ Binds K fd ps ds ∧ Vals dvs ds
/-- y = e.m(); y.f = ..; ..; return y -/
def wTwB (i : Nat) (C0 : Addr) (m : Str) (wf : WM) (dts : List T) (o : WE) (C : Addr) (b : WN) : WS := fun k sl => o sl fun x => ∃ ns ts, x = .val (.ins C0 ns ts) ∧ m ∉ ns ∧ wf (x :: dts.map Sl.val) fun ns' ts' => i < sl.length ∧ b (fun a c => k.rt (.val (.ins C a c))) (sl.set i .any) ns' ts'
theorem gss_twB (i : Nat) {k j : Nat} {C0 C : Addr} {m y : Str} {wf : WM} {dvs : List V} {dts : List T} {o : Expr} {wo : WE} {rest : List Stmt} {b : WN} {apos p2 pos pos' : Pos} {pl : Sem Bool} (d : MethF X.prog X.w X.K X.mg X.base k C0 m C wf dvs) (cl : Cls X.K C0) (hr : Room j X.A) (hc : CTs dvs dts) (ho : GE X o wo) (hrest : GB X i C rest b) (hNd : X.N.Nodup) (hkj : k ≤ j := by decide)
    (hi : X.N[i]? = some y := by rfl) (hx : Loc X.env.scope y := by first | exact Or.inl rfl | exact Or.inr rfl) (hf : X.fn y = true ∨ X.env.scope.names.lookup y = some .local := by first | exact .inl rfl | exact .inr rfl)
    (ht : eval (.Call (.Attribute o m apos) [] [] pos) X.env = (do
      let ov ← eval o X.env
      standAt apos.atName
      let (f, first) ← holding [ov] (getMethod ov m pl)
      callWith pos f first (backTo pos (starEach [] X.env)) (backToKw pos (keywordEach [] X.env))) := by rfl)
    (hs : swapsWithSole [.Name y p2] (.Call (.Attribute o m apos) [] [] pos) pos'.line X.env = pure false := by rfl) (hw : swappedStores [.Name y p2] (.Call (.Attribute o m apos) [] [] pos) X.env = pure none := by rfl) (h1 : (assignEach [.Name y p2] X.env).map (·.2) = [assign (.Name y p2) X.env] := by rfl) :
    GSs X (.Assign [.Name y p2] (.Call (.Attribute o m apos) [] [] pos) pos' :: rest) (wTwB i C0 m wf dts wo C b) := by
  obtain ⟨f, fd, ps, ds, F0, M, hb, hd⟩ := d
  refine ⟨fun pins sh σ H E I ⟨F, D, A, sl, kk, S, hwd, _, _, _, q4⟩ => (pss_cons (ps_asg (pe_meth0 ho cl M F0 (hr.mono hkj) hb hd pass0 ht) (pg_name hNd hi hx hf) hs hw h1) hrest).run pins sh σ H E I ?_⟩
  refine ⟨F, D, A, sl, _, S, hwd, fun u H1 x b1 ok hx => ?_⟩
  obtain ⟨ns, ts, rfl, hm, hp⟩ := hx
  have r0 : Rep X.K A H1 u (.ins C0 ns ts) := ok
  have S1 := S.beh b1
  obtain ⟨b', dx', vs, rfl, _, _, h1', _⟩ := Rep.insI r0
  refine ⟨b', dx', _, rfl, h1', lookup_none hm, D, A, _, _, S1.dice, S1.dA, S1.liv, .cons (show ArgOk X.K D A H1 (.ref b') (.val (.ins C0 ns ts)) from r0) hc.args, hp, fun p dx H' ns' ws ts' be g1 g2 g3 g4 g5 g6 hP => ?_⟩
  have hpA : p ∉ A := fun z => S1.alive p z g1
  have hdA : dx ∉ A := fun z => S1.alive dx z g2
  have S2 := S1.growL be (ps := [p, dx]) (fun q hq => by
    rcases List.mem_cons.mp hq with z | z
    · rw [z]; exact g1
    · rw [List.mem_singleton.mp z]; exact g2) (fun q hq => by
    rcases List.mem_cons.mp hq with z | z
    · rw [z, g3]; exact fun z => nomatch z
    · rw [List.mem_singleton.mp z, g4]; exact fun z => nomatch z)
  have S3 : Sta X.K F D ([p, dx] ++ A) H' (σ.set i (some (.ref p))) (sl.set i .any) := { S2 with
    slots := Slots.set_any S2.slots
    dist := S2.dist.set fun _ _ z => nomatch z }
  have hlt : i < σ.length := by rw [Paired.length_eq S.slots]; exact hP.1
  exact ⟨F, D, _, _, p, ns', ts', kk.rt, S3, ⟨List.getElem?_set_self hlt, dx, ws, List.mem_cons_self, fun z => hpA (S.sub p z), fun z => hpA (S.dA p z), List.mem_cons_of_mem _ List.mem_cons_self, fun z => hdA (S.sub dx z), fun z => hdA (S.dA dx z), g3, g4, g5, g6⟩, hP.2, q4⟩
end
section
variable {X : Cx} {K : PySem.W.Frag} {A B : Avoid} {H : Hp}
/-- no instance within -/
def ni : Nat → T → Bool
  | _, .non => true
  | _, .bl _ => true
  | _, .int _ => true
  | _, .str _ => true
  | n + 1, .tup ts => ts.all (ni n)
  | n + 1, .lst ts => ts.all (ni n)
  | _, _ => false
theorem repAll_hide {n : Nat} (ih : ∀ {v : V} {t : T}, ni n t = true → Rep K B H v t → Rep K A H v t) : ∀ {vs : List V} {ts : List T}, ts.all (ni n) = true → RepAll K B H vs ts → RepAll K A H vs ts
  | _, _, _, .nil => .nil
  | _, _, h, .cons r rs => by
    rw [List.all_cons, Bool.and_eq_true] at h
    exact .cons (ih h.1 r) (repAll_hide ih h.2 rs)
theorem rep_hide (e : ∀ a, a ∉ B → a ∉ A ∨ (∃ C dx fs, H a = some (.ins C dx fs)) ∨ ∃ y, H a = some (.own y)) : ∀ (n : Nat) {v : V} {t : T}, ni n t = true → Rep K B H v t → Rep K A H v t := by
  intro n
  induction n with
  | zero =>
    intro v t h r
    cases r with
    | non => exact .non
    | bl b => exact .bl b
    | int i => exact .int i
    | str x => exact .str x
    | _ => cases h
  | succ n ih =>
    intro v t h r
    cases r with
    | non => exact .non
    | bl b => exact .bl b
    | int i => exact .int i
    | str x => exact .str x
    | tup h1 h2 ra =>
      refine .tup ?_ h2 (repAll_hide ih h ra)
      rcases e _ h1 with z | ⟨_, _, _, z⟩ | ⟨_, z⟩
      · exact z
      · rw [h2] at z; cases z
      · rw [h2] at z; cases z
    | tupK h2 ra => exact .tupK h2 (repAll_hide ih h ra)
    | lst h1 h2 ra =>
      refine .lst ?_ h2 (repAll_hide ih h ra)
      rcases e _ h1 with z | ⟨_, _, _, z⟩ | ⟨_, z⟩
      · exact z
      · rw [h2] at z; cases z
      · rw [h2] at z; cases z
    | _ => cases h
/-- the instance that is being changed, as a value for the while of an expression -/
theorem SelfAt.look {F : Fx} {D : Avoid} {σ : L2.St} {sl : List Sl} {i : Nat} {p C : Addr} {ns : List Str} {ts : List T} (S : Sta K F D A H σ sl) (s : SelfAt K F D A H σ i p C ns ts) :
    ∃ B, Sta K F D B H σ (sl.set i (.val (.ins C ns ts))) ∧ ∀ H', Beh D H H' → ∀ a, a ∉ B → a ∉ A ∨ (∃ C dx fs, H' a = some (.ins C dx fs)) ∨ ∃ y, H' a = some (.own y) := by
  obtain ⟨dx, vs, h1, h2, h3, h4, h5, h6, h7, h8, h9, h10⟩ := s.obj
  have no : ∀ (j : Nat) (l' : Addr) (us : OwnT), sl[j]? = some (Sl.ob l' us) → l' ≠ p ∧ l' ≠ dx ∧ l' ∈ A := fun j l' us e => by
    obtain ⟨v', _, ok'⟩ := S.get e (fun z => nomatch z)
    obtain ⟨_, g1, _, _, g4⟩ := ok'
    cases us with
    | lst _ =>
      obtain ⟨ws, g, _⟩ := g4
      exact ⟨ne_of g h7 (by intro z; cases z), ne_of g h8 (by intro z; cases z), g1⟩
    | dct _ _ =>
      obtain ⟨ws, g, _⟩ := g4
      exact ⟨ne_of g h7 (by intro z; cases z), ne_of g h8 (by intro z; cases z), g1⟩
  have mem : ∀ a, a ∈ A.filter (fun a => decide (a ≠ p ∧ a ≠ dx)) ↔ a ∈ A ∧ a ≠ p ∧ a ≠ dx := fun a => by rw [List.mem_filter, decide_eq_true_eq]
  have S2 : Sta K F D (A.filter fun a => decide (a ≠ p ∧ a ≠ dx)) H σ sl := S.thin (fun a ha => ((mem a).mp ha).1) (fun d hd => (mem d).mpr ⟨S.dA d hd, fun z => h3 (by rw [← z]; exact hd), fun z => h6 (by rw [← z]; exact hd)⟩) (fun a ha => (mem a).mpr ⟨S.sub a ha, fun z => h2 (by rw [← z]; exact ha), fun z => h5 (by rw [← z]; exact ha)⟩)
    fun j l' us e => (mem l').mpr ⟨(no j l' us e).2.2, (no j l' us e).1, (no j l' us e).2.1⟩
  have r : Rep K (A.filter fun a => decide (a ≠ p ∧ a ≠ dx)) H (.ref p) (.ins C ns ts) := Rep.ins (fun z => ((mem p).mp z).2.1 rfl) (fun z => ((mem dx).mp z).2.2 rfl) h7 h8 h9 (h10.sub fun a ha => ((mem a).mp ha).1)
  have sl2 : Slots K D F.A0 (A.filter fun a => decide (a ≠ p ∧ a ≠ dx)) H σ (sl.set i (.val (.ins C ns ts))) := by
    have z := Paired.setP (x := some (V.ref p)) (y := Sl.val (.ins C ns ts)) (R := Slot K D F.A0 (A.filter fun a => decide (a ≠ p ∧ a ≠ dx)) H) (.inr ⟨_, rfl, r⟩) i S2.slots
    have e : σ.set i (some (V.ref p)) = σ := by
      have hi := s.slot
      obtain ⟨hlt, hv⟩ := List.getElem?_eq_some_iff.mp hi
      rw [← hv]
      exact List.set_getElem_self hlt
    rwa [e] at z
  refine ⟨_, { S2 with slots := sl2, dist := S2.dist.set fun _ _ z => nomatch z }, fun H' be a ha => ?_⟩
  by_cases g : a ∈ A
  · by_cases g1 : a = p
    · exact .inr (.inl ⟨C, dx, _, by rw [g1]; exact be.ext _ _ h3 h7⟩)
    by_cases g2 : a = dx
    · exact .inr (.inr ⟨p, by rw [g2]; exact be.ext _ _ h6 h8⟩)
    · exact absurd ((mem a).mpr ⟨g, g1, g2⟩) ha
  · exact .inl g
/-- y.f = e, where e looks at y -/
def wnPutS (i : Nat) (C : Addr) (f : Str) (e : WE) : WN := fun k sl ns ts => e (sl.set i (.val (.ins C ns ts))) fun x => ∃ t, x = .val t ∧ ni 60 t = true ∧ ns.length < 500 ∧ k (putNs f ns) (putTs f t ns ts)
theorem gn_putS {i : Nat} {C : Addr} {e : Expr} {y f : Str} {w : WE} {pos pos' p0 : Pos} (cl : Cls X.K C) (nf : NoAttr X.K C f) (he : GE X e w) (hN : X.N[i]? = some y := by rfl) (hv : Vis X.env.scope y := by first | exact Or.inl rfl | exact Or.inr (Or.inl rfl) | exact Or.inr (Or.inr rfl))
    (hd : (y == ("__debug__" : Str)) = false := by decide) (hcd : (y == ("__classdict__" : Str)) = false := by decide) (hs : swapsWith e (some (.Attribute (.Name y p0) f pos')) pos.line X.env = pure false := by rfl) :
    GN X i C (.Assign [.Attribute (.Name y p0) f pos'] e pos) (wnPutS i C f w) := gn_of (ps_fld (pe_var hN hv hd hcd) he hs) fun E σ H ⟨F, D, A, sl, p, ns, ts, k, S, s, hw, q⟩ => by
  obtain ⟨B, SB, hB⟩ := s.look S
  refine ⟨F, D, B, _, _, SB, hw, fun v H1 x b1 ok hx => ?_⟩
  obtain ⟨t, rfl, hni, hl, hp⟩ := hx
  have ok : Rep X.K A H1 v t := rep_hide (hB H1 b1) 60 hni ok
  have S1 := S.beh b1
  have s1 := s.beh S.dA b1
  obtain ⟨dx, vs, h1, h2, h3, h4, h5, h6, h7, h8, h9, h10⟩ := s1.obj
  refine ⟨.ref p, s1.slot, p, C, dx, _, rfl, h7, cl, nf, by rw [List.length_zip]; omega, ?_⟩
  have no : ∀ (j : Nat) (l' : Addr) (us : OwnT), sl[j]? = some (Sl.ob l' us) → l' ≠ p := fun j l' us e => by
    obtain ⟨v', _, ok'⟩ := S1.get e (fun z => nomatch z)
    obtain ⟨_, _, _, _, g4⟩ := ok'
    cases us with
    | lst _ =>
      obtain ⟨ws, g, _⟩ := g4
      exact ne_of g h7 (by intro z; cases z)
    | dct _ _ =>
      obtain ⟨ws, g, _⟩ := g4
      exact ne_of g h7 (by intro z; cases z)
  have S2 := S1.write (o := .ins C dx (putF f v (ns.zip vs))) h1 h2 h3 no (fun φ z => by rw [h7] at z; cases z)
  exact q _ _ _ S2 ⟨s1.slot, dx, putTs f v ns vs, h1, h2, h3, h4, h5, h6, by rw [upd_same, putF_zip h9], by rw [upd_ne (ne_of h8 h7 (by intro z; cases z))]; exact h8, put_len h9, (put_rep ok h10).mono (Ext.mut h1)⟩ hp
/-- y.f += e, numbers -/
def wnAug (f : Str) (e : WE) : WN := fun k sl ns ts => ∃ a : Int, (ns.zip ts).lookup f = some (.int a) ∧ e sl fun x => ∃ b : Int, x = .val (.int b) ∧ ns.length < 500 ∧ k (putNs f ns) (putTs f (.int (a + b)) ns ts)
theorem gn_aug {i : Nat} {C : Addr} {e : Expr} {y f : Str} {w : WE} {pos pos' p0 : Pos} (cl : Cls X.K C) (nf : NoAttr X.K C f) (he : GE X e w) (hN : X.N[i]? = some y := by rfl) (hv : Vis X.env.scope y := by first | exact Or.inl rfl | exact Or.inr (Or.inl rfl) | exact Or.inr (Or.inr rfl))
    (hd : (y == ("__debug__" : Str)) = false := by decide) (hcd : (y == ("__classdict__" : Str)) = false := by decide) :
    GN X i C (.AugAssign (.Attribute (.Name y p0) f pos') .Add e pos) (wnAug f w) := gn_of (ps_fldaug (pe_var hN hv hd hcd) he in_add) fun E σ H ⟨F, D, A, sl, p, ns, ts, k, S, s, hw, q⟩ => by
  obtain ⟨a, ha, hw⟩ := hw
  obtain ⟨dx0, vs0, _, _, _, _, _, _, h70, _, h90, h100⟩ := s.obj
  obtain ⟨u, eu, ru⟩ := lookup_rep h100 ha
  cases ru
  refine ⟨.ref p, s.slot, p, C, dx0, _, _, rfl, h70, cl, nf, eu, F, D, A, sl, _, S, hw, fun v H1 x b1 ok hx => ?_⟩
  obtain ⟨b, rfl, hl, hp⟩ := hx
  have ok : Rep X.K A H1 v (.int b) := ok
  cases ok
  have S1 := S.beh b1
  have s1 := s.beh S.dA b1
  obtain ⟨dx, vs, h1, h2, h3, h4, h5, h6, h7, h8, h9, h10⟩ := s1.obj
  refine ⟨a, b, rfl, rfl, dx, _, h7, by rw [List.length_zip]; omega, ?_⟩
  have no : ∀ (j : Nat) (l' : Addr) (us : OwnT), sl[j]? = some (Sl.ob l' us) → l' ≠ p := fun j l' us e => by
    obtain ⟨v', _, ok'⟩ := S1.get e (fun z => nomatch z)
    obtain ⟨_, _, _, _, g4⟩ := ok'
    cases us with
    | lst _ =>
      obtain ⟨ws, g, _⟩ := g4
      exact ne_of g h7 (by intro z; cases z)
    | dct _ _ =>
      obtain ⟨ws, g, _⟩ := g4
      exact ne_of g h7 (by intro z; cases z)
  have S2 := S1.write (o := .ins C dx (putF f (.int (a + b)) (ns.zip vs))) h1 h2 h3 no (fun φ z => by rw [h7] at z; cases z)
  exact q _ _ _ S2 ⟨s1.slot, dx, putTs f (.int (a + b)) ns vs, h1, h2, h3, h4, h5, h6, by rw [upd_same, putF_zip h9], by rw [upd_ne (ne_of h8 h7 (by intro z; cases z))]; exact h8, put_len h9, (put_rep (.int (a + b)) h10).mono (Ext.mut h1)⟩ hp
/-! rules -/
end
section
variable {P : Program} {w : World} {K : PySem.W.Frag} {mg : Str → Option Value} {base : Heap} {x qual : Str} {params : Arguments} {body : List Stmt} {scope : Scope} {kws : List (Str × V)} {f : Addr} {fd : FuncData} {ps : List Str} {k : Nat} {C0 C : Addr} {m : Str} {wf : WM}
theorem MethF.of (F : FunD K x qual params body scope [] kws f fd) (G : FnOk P w K mg base CX0 k f fd ps (spF K C wf)) (M : Meth K C0 m f)
    (h : ∀ (kV doc pm : Value) (an : Option Addr) (cdv ct : Value) (us : List Value), us.length = ps.length → bindArgs (PySem.W.fnOf x qual params body scope .none kV doc pm an cdv ct) ⟨us, []⟩ = pure (ps.zip us)) : MethF P w K mg base k C0 m C wf [] :=
  ⟨f, fd, ps, [], G, M, F.bindsN h, .nil⟩
end
end Tr


set_option Elab.async false
set_option linter.all false
set_option maxRecDepth 100000
set_option maxHeartbeats 0
namespace Tr
open PySem PySem.Spec PyProof.Rows L2
variable [Tabl]
section
variable {X : Cx}
/-- x[a], x[b] = a pair, x a dict of one's own -/
def wDPut2 (i : Nat) (wt wi wj : WE) : WS := fun k sl => wt sl fun x => ∃ t u l ks ts, x = .val (.tup [t, u]) ∧ nth sl i = .ownd l ks ts ∧ ks.length < 999990 ∧
  wi sl fun y => ∃ a m, y = .val a ∧ keyT a = some m ∧ wj (sl.set i (.ownd l (putKs m ks) (putVs m t ks ts))) fun z => ∃ b n, z = .val b ∧ keyT b = some n ∧
    k.nx ((sl.set i (.ownd l (putKs m ks) (putVs m t ks ts))).set i (.ownd l (putKs n (putKs m ks)) (putVs n u (putKs m ks) (putVs m t ks ts))))
end
section
variable {X : Cx} {W : L2.WX}
/-- a if t else b, where these may raise -/
def xIfE (t : WT) (a b : WEX) : WEX := fun R sl P => t sl fun c => if c = true then a R sl P else b R sl P
theorem x_xifE {t : WT} {a b : WEX} {R : RX} {sl : List Sl} {P : Sl → Prop} (h : t sl fun c => ifG (a R sl P) (b R sl P) c) : xIfE t a b R sl P := h
end
end Tr


set_option Elab.async false
set_option linter.all false
set_option maxRecDepth 100000
set_option maxHeartbeats 0
namespace Tr
open PySem PySem.Spec PyProof.Rows L2
variable [Tabl]
section
variable {X : Cx} {W : L2.WX} {CX : CXT}
def tMethSD (C : Addr) (m : Str) (sp : Sp) (dvs : List V) (E : L2.St → XK) (ta : TE) (t : TA) : TE := fun σ H Q => ta σ H fun x H1 => ∃ a dx fs, x = .ref a ∧ H1 a = some (.ins C dx fs) ∧ fs.lookup m = none ∧
  t σ H1 fun vs H2 => sp (x :: (vs ++ dvs)) H2 Q (E σ)
end
end Tr


set_option Elab.async false
set_option linter.all false
set_option maxRecDepth 100000
set_option maxHeartbeats 0
/-! rules for new instances that are changed -/
namespace Tr
open PySem PySem.Spec PyProof.Rows L2
variable [Tabl]
section
variable {sl : List Sl} {i : Nat} {C0 C : Addr} {m f : Str} {wf : WM} {dts : List T} {o e : WE} {b : WN} {k : Ks} {kn : List Str → List T → Prop} {ns : List Str} {ts : List T} {t : T} {a : WA}
def twG (i : Nat) (C0 : Addr) (m : Str) (wf : WM) (dts : List T) (C : Addr) (b : WN) (k : Ks) (sl : List Sl) (x : Sl) : Prop := ∃ ns ts, x = .val (.ins C0 ns ts) ∧ m ∉ ns ∧ wf (x :: dts.map Sl.val) fun ns' ts' => i < sl.length ∧ b (fun a c => k.rt (.val (.ins C a c))) (sl.set i .any) ns' ts'
theorem x_tw (h : o sl fun x => twG i C0 m wf dts C b k sl x) : wTwB i C0 m wf dts o C b k sl := h
theorem x_twv (hm : m ∉ ns) (h : wf (.val (.ins C0 ns ts) :: dts.map Sl.val) fun ns' ts' => i < sl.length ∧ b (fun a c => k.rt (.val (.ins C a c))) (sl.set i .any) ns' ts') : twG i C0 m wf dts C b k sl (.val (.ins C0 ns ts)) := ⟨ns, ts, rfl, hm, h⟩
theorem x_mkF {kf : List Str → List T → Prop} (h : a sl fun xs => xs.all isArg = true ∧ wf (xs ++ dts.map Sl.val) fun ns ts => i < sl.length ∧ b kf (sl.set i .any) ns ts) : wMkF i dts wf a b kf sl := h
def nputG (f : Str) (kn : List Str → List T → Prop) (ns : List Str) (ts : List T) (x : Sl) : Prop := ∃ t, x = .val t ∧ ns.length < 500 ∧ kn (putNs f ns) (putTs f t ns ts)
theorem x_nput (h : e sl fun x => nputG f kn ns ts x) : wnPut f e kn sl ns ts := h
theorem x_nputv (hl : ns.length < 500) (h : kn (putNs f ns) (putTs f t ns ts)) : nputG f kn ns ts (.val t) := ⟨t, rfl, hl, h⟩
def nputSG (f : Str) (kn : List Str → List T → Prop) (ns : List Str) (ts : List T) (x : Sl) : Prop := ∃ t, x = .val t ∧ ni 60 t = true ∧ ns.length < 500 ∧ kn (putNs f ns) (putTs f t ns ts)
theorem x_nputS (h : e (sl.set i (.val (.ins C ns ts))) fun x => nputSG f kn ns ts x) : wnPutS i C f e kn sl ns ts := h
theorem x_nputSv (hn : ni 60 t = true) (hl : ns.length < 500) (h : kn (putNs f ns) (putTs f t ns ts)) : nputSG f kn ns ts (.val t) := ⟨t, rfl, hn, hl, h⟩
def naugG (f : Str) (kn : List Str → List T → Prop) (ns : List Str) (ts : List T) (a : Int) (x : Sl) : Prop := ∃ b : Int, x = .val (.int b) ∧ ns.length < 500 ∧ kn (putNs f ns) (putTs f (.int (a + b)) ns ts)
theorem x_naug {a : Int} (ha : (ns.zip ts).lookup f = some (.int a)) (h : e sl fun x => naugG f kn ns ts a x) : wnAug f e kn sl ns ts := ⟨a, ha, h⟩
theorem x_naugv {a c : Int} (hl : ns.length < 500) (h : kn (putNs f ns) (putTs f (.int (a + c)) ns ts)) : naugG f kn ns ts a (.val (.int c)) := ⟨c, rfl, hl, h⟩
def dput2G (i : Nat) (wi wj : WE) (nx : List Sl → Prop) (sl : List Sl) (x : Sl) : Prop := ∃ t u l ks ts, x = .val (.tup [t, u]) ∧ nth sl i = .ownd l ks ts ∧ ks.length < 999990 ∧
  wi sl fun y => ∃ a m, y = .val a ∧ keyT a = some m ∧ wj (sl.set i (.ownd l (putKs m ks) (putVs m t ks ts))) fun z => ∃ b n, z = .val b ∧ keyT b = some n ∧
    nx ((sl.set i (.ownd l (putKs m ks) (putVs m t ks ts))).set i (.ownd l (putKs n (putKs m ks)) (putVs n u (putKs m ks) (putVs m t ks ts))))
end
end Tr


set_option Elab.async false
set_option linter.all false
set_option maxRecDepth 100000
set_option maxHeartbeats 0
namespace Tr
open PySem PySem.Spec PyProof.Rows L2
variable [Tabl]
section
variable {X : Cx} {K : PySem.W.Frag}
/-! a, b, c, d = .., .., [..], ..: four names at once, where one or two lists of one's own are born -/
def wPar4O (i j k l : Nat) (a b : WE) (w : WL) (e : WE) : WS := fun s sl => a sl fun x => storable x = true ∧ b sl fun y => storable y = true ∧ w sl fun ts => e sl fun z => storable z = true ∧ ∀ p, s.nx ((((sl.set i x).set j y).set k (.own p ts)).set l z)
def wPar4OO (i j k l : Nat) (a b : WE) (w v : WL) : WS := fun s sl => a sl fun x => storable x = true ∧ b sl fun y => storable y = true ∧ w sl fun ts => v sl fun us => ∀ p q, s.nx ((((sl.set i x).set j y).set k (.own p ts)).set l (.own q us))
abbrev gFour (K : PySem.W.Frag) (i j k l : Nat) : TG := gTup K 4 (gCons (gName i) (gCons (gName j) (gCons (gName k) (gCons (gName l) gNil))))
end
end Tr


set_option Elab.async false
set_option linter.all false
set_option maxRecDepth 100000
set_option maxHeartbeats 0
namespace My
open PySem PySem.Spec PyProof.Rows L2 Tr
def preDice (xs : List Sl) : Prop := ∃ (ns : List Int) (s : Int), xs = [.val (.scr (ns.map T.int)), .val (.int s)] ∧ ns.length ≤ 63 ∧ 0 ≤ s ∧ s < 64
section
variable [Tabl]
variable {P : Program} {w : World} {K : PySem.W.Frag} {mg : Str → Option Value} {base : Heap}
abbrev N_Reader___eq__ : List Str := ["self", "other"]
def w_Reader___eq__ (cN : Str → Addr) : WF := wDef 2 0 (wRet (wAndV (wIsI (cN "Reader") (wVar 1)) (wAndV (wOp eqT (wFld (cN "Reader") "number" (wVar 0)) (wFld (cN "Reader") "number" (wVar 1))) (wAndV (wOp eqT (wFld (cN "Reader") "place" (wVar 0)) (wFld (cN "Reader") "place" (wVar 1))) (wAndV (wOp eqT (wFld (cN "Reader") "read_number" (wVar 0)) (wFld (cN "Reader") "read_number" (wVar 1))) (wAndV (wOp eqT (wFld (cN "Reader") "write_number" (wVar 0)) (wFld (cN "Reader") "write_number" (wVar 1))) (wAndV (wOp eqT (wFld (cN "Reader") "open_read" (wVar 0)) (wFld (cN "Reader") "open_read" (wVar 1))) (wAndV (wOp eqT (wFld (cN "Reader") "open_write" (wVar 0)) (wFld (cN "Reader") "open_write" (wVar 1))) (wOp eqT (wFld (cN "Reader") "floor" (wVar 0)) (wFld (cN "Reader") "floor" (wVar 1)))))))))))
abbrev N__law_roll : List Str := ["dice", "most", "found", "one", "two"]
theorem sc__law_roll : FnScope N__law_roll ["dice", "most"] (defScope s__law_roll) := ⟨rfl, rfl, rfl, by decide +kernel, rfl, by decide +kernel, by decide +kernel⟩
def w__law_roll : WF := wDef 2 3 (wSeq (wIf (wB (wOp gtT (wDix 0) (wC (.int 0)))) (wSeq (wAsg (wOp modT (wCB intT (waCons (wDix 0) waNil)) (wVar 1)) 2) (wSeq (wDst 0 (wOp divT (wDix 0) (wVar 1))) (wRet (wVar 2)))) wNext) (wSeq (wDst 0 (wOp addT (wDix 0) (wC (.int 1)))) (wSeq (wAsg (wOp modT (wCB intT (waCons (wOp addT (wDix 0) (wOp mulT (wC (.int 68718953)) (wDix 0))) waNil)) (wC (.int 2305843009213693487))) 3) (wSeq (wAsg (wOp addT (wOp mulT (wOp modT (wCB intT (waCons (wOp addT (wOp mulT (wVar 3) (wVar 3)) (wOp mulT (wC (.int 83)) (wDix 0))) waNil)) (wC (.int 2305843009213693253))) (wC (.int 7368787))) (wVar 3)) 4) (wRet (wOp modT (wCB intT (waCons (wOp divT (wVar 4) (wC (.int 65563))) waNil)) (wVar 1)))))))
theorem ok__law_roll {f : Addr} {fd : FuncData} (F : FunD K "_law_roll" "_law_roll" (defArgs s__law_roll) (defBody s__law_roll) (defScope s__law_roll) [] [] f fd) (b_int : mg "int" = none) : FnOk P w K mg base CX0 1 f fd ["dice", "most"] (spT K w__law_roll) :=
  by
  refine fn_tree F sc__law_roll rfl rfl fun cdv A outer s H E hr => ?_
  exact (gss_cons (gs_if (gt_cmp op_gtA sop_gt (ge_dix 0 (j := 0) (by decide)) ge_int) (gss_cons (gs_asg 2 (ge_op op_mod sop_mod (ge_cty call_int1 sc_int (by rfl) b_int (by decide +kernel) (ga_cons (ge_dix 0 (j := 0) (by decide)) ga_nil)) (ge_var 1)) sc__law_roll.nd) (gss_cons (gs_dst 0 (j := 0) (by decide) (ge_op op_fdivW sop_div (ge_dix 0 (j := 0) (by decide)) (ge_var 1))) (gss_one (gs_ret (ge_var 2))))) gss_nil) (gss_cons (gs_dst 0 (j := 2) (by decide) (ge_op op_addA sop_add (ge_dix 0 (j := 2) (by decide)) ge_int)) (gss_cons (gs_asg 3 (ge_op op_mod sop_mod (ge_cty call_int1 sc_int (by rfl) b_int (by decide +kernel) (ga_cons (ge_op op_addA sop_add (ge_dix 0 (j := 1) (by decide)) (ge_op op_mulA sop_mul ge_int (ge_dix 0 (j := 2) (by decide)))) ga_nil)) ge_int) sc__law_roll.nd) (gss_cons (gs_asg 4 (ge_op op_addA sop_add (ge_op op_mulA sop_mul (ge_op op_mod sop_mod (ge_cty call_int1 sc_int (by rfl) b_int (by decide +kernel) (ga_cons (ge_op op_addA sop_add (ge_op op_mulA sop_mul (ge_var 3) (ge_var 3)) (ge_op op_mulA sop_mul ge_int (ge_dix 0 (j := 2) (by decide)))) ga_nil)) ge_int) ge_int) (ge_var 3)) sc__law_roll.nd) (gss_one (gs_ret (ge_op op_mod sop_mod (ge_cty call_int1 sc_int (by rfl) b_int (by decide +kernel) (ga_cons (ge_op op_fdivW sop_div (ge_var 4) ge_int) ga_nil)) (ge_var 1))))))))

abbrev N__law_pick : List Str := ["dice", "items"]
theorem sc__law_pick : FnScope N__law_pick ["dice", "items"] (defScope s__law_pick) := ⟨rfl, rfl, rfl, by decide +kernel, rfl, by decide +kernel, by decide +kernel⟩
def w__law_pick : WF := wDef 2 0 (wRet (wOp ixT (wVar 1) (wCall w__law_roll [] (waCons (wVar 0) (waCons (wCB lenT (waCons (wVar 1) waNil)) waNil)))))
theorem ok__law_pick {f : Addr} {fd : FuncData} (F : FunD K "_law_pick" "_law_pick" (defArgs s__law_pick) (defBody s__law_pick) (defScope s__law_pick) [] [] f fd) (D__law_roll : CallD P w K mg base 1 "_law_roll" w__law_roll []) (b_len : mg "len" = none) : FnOk P w K mg base CX0 2 f fd ["dice", "items"] (spT K w__law_pick) :=
  by
  refine fn_tree F sc__law_pick rfl rfl fun cdv A outer s H E hr => ?_
  exact (gss_one (gs_ret (ge_ix (ge_var 1) (ge_callD D__law_roll hr (by rfl) CTs.nil (ga_cons (ge_var 0) (ga_cons (ge_cb call_len sc_len (by rfl) b_len (by decide +kernel) (ga_cons (ge_var 1) ga_nil)) ga_nil))))))

abbrev N_is_whole : List Str := ["value"]
theorem sc_is_whole : FnScope N_is_whole ["value"] (defScope s_is_whole) := ⟨rfl, rfl, rfl, by decide +kernel, rfl, by decide +kernel, by decide +kernel⟩
def w_is_whole : WF := wDef 1 0 (wSeq (wIf (wOr (wNot (wTru (wCB isiT (waCons (wVar 0) (waCons (wC (.ty "int")) waNil))))) (wTru (wCB isiT (waCons (wVar 0) (waCons (wC (.ty "bool")) waNil))))) (wRet (wC (.bl false))) wNext) (wRet (wChain leT leT (wUn negT (wC (.int 999999999999999999999999999999999999999999999999999999999999))) (wVar 0) (wC (.int 999999999999999999999999999999999999999999999999999999999999)))))
theorem ok_is_whole {f : Addr} {fd : FuncData} (F : FunD K "is_whole" "is_whole" (defArgs s_is_whole) (defBody s_is_whole) (defScope s_is_whole) [] [] f fd) (b_isinstance : mg "isinstance" = none) (b_bool : mg "bool" = none) (b_int : mg "int" = none) (c_MOST_WHOLE : ∃ t, mg "MOST_WHOLE" = some (.int 999999999999999999999999999999999999999999999999999999999999 t)) : FnOk P w K mg base CX0 1 f fd ["value"] (spT K w_is_whole) :=
  by
  refine fn_tree F sc_is_whole rfl rfl fun cdv A outer s H E hr => ?_
  exact (gss_cons (gs_if (GW.gt (gw_or (gt_not (gt_tru (ge_cb call_isi sc_isi (by rfl) b_isinstance (by decide +kernel) (ga_cons (ge_var 0) (ga_cons (ge_ty (by rfl) b_int (by decide +kernel)) ga_nil))))) (gw_or1 (gt_tru (ge_cb call_isi sc_isi (by rfl) b_isinstance (by decide +kernel) (ga_cons (ge_var 0) (ga_cons (ge_ty (by rfl) b_bool (by decide +kernel)) ga_nil))))))) (gss_one (gs_ret ge_bl)) gss_nil) (gss_one (gs_ret (ge_chain op_leA op_leA sop_le sop_le (ge_neg (ge_globI (by rfl) c_MOST_WHOLE)) (ge_var 0) (ge_globI (by rfl) c_MOST_WHOLE)))))

abbrev N_is_within : List Str := ["value", "low", "high"]
theorem sc_is_within : FnScope N_is_within ["value", "low", "high"] (defScope s_is_within) := ⟨rfl, rfl, rfl, by decide +kernel, rfl, by decide +kernel, by decide +kernel⟩
def w_is_within : WF := wDef 3 0 (wRet (wAndV (wCall w_is_whole [] (waCons (wVar 0) waNil)) (wChain leT leT (wVar 1) (wVar 0) (wVar 2))))
theorem ok_is_within {f : Addr} {fd : FuncData} (F : FunD K "is_within" "is_within" (defArgs s_is_within) (defBody s_is_within) (defScope s_is_within) [.int 999999999999999999999999999999999999999999999999999999999999] [] f fd) (D_is_whole : CallD P w K mg base 1 "is_whole" w_is_whole []) : FnOk P w K mg base CX0 2 f fd ["value", "low", "high"] (spT K w_is_within) :=
  by
  refine fn_tree F sc_is_within rfl rfl fun cdv A outer s H E hr => ?_
  exact (gss_one (gs_ret (ge_and (ge_callD D_is_whole hr (by rfl) CTs.nil (ga_cons (ge_var 0) ga_nil)) (ge_one (ge_chain op_leA op_leA sop_le sop_le (ge_var 1) (ge_var 0) (ge_var 2))))))

abbrev N_need_number : List Str := ["value", "low", "high"]
theorem sc_need_number : FnScope N_need_number ["value", "low", "high"] (defScope s_need_number) := ⟨rfl, rfl, rfl, by decide +kernel, rfl, by decide +kernel, by decide +kernel⟩
def w_need_number : WF := wDef 3 0 (wIf (wNot (wTru (wCall w_is_within [] (waCons (wVar 0) (waCons (wVar 1) (waCons (wVar 2) waNil)))))) wNever wNext)
theorem ok_need_number {f : Addr} {fd : FuncData} (F : FunD K "need_number" "need_number" (defArgs s_need_number) (defBody s_need_number) (defScope s_need_number) [.int 0, .int 999999999999999999999999999999999999999999999999999999999999] [] f fd) (D_is_within_3 : CallD P w K mg base 2 "is_within" w_is_within []) : FnOk P w K mg base CX0 3 f fd ["value", "low", "high"] (spT K w_need_number) :=
  by
  refine fn_tree F sc_need_number rfl rfl fun cdv A outer s H E hr => ?_
  exact (gss_one (gs_if (gt_not (gt_tru (ge_callD D_is_within_3 hr (by rfl) CTs.nil (ga_cons (ge_var 0) (ga_cons (ge_var 1) (ga_cons (ge_var 2) ga_nil)))))) (gss_one gs_never) gss_nil))

abbrev N_Reader___init__ : List Str := ["self", "number", "place"]
theorem sc_Reader___init__ : FnScope N_Reader___init__ ["self", "number", "place"] (defScope s_Reader___init__) := ⟨rfl, rfl, rfl, by decide +kernel, rfl, by decide +kernel, by decide +kernel⟩
def w_Reader___init__ : WM := wInit 2 0 (wnSeq (wnDrop (wCall w_need_number [] (waCons (wVar 1) (waCons (wC (.int 0)) (waCons (wC (.int 5)) waNil))))) (wnSeq (wnDrop (wCall w_need_number [] (waCons (wVar 2) (waCons (wC (.int 1)) (waCons (wC (.int 6)) waNil))))) (wnSeq (wnSet "number" (wVar 1)) (wnSeq (wnSet "place" (wVar 2)) (wnSeq (wnSet "read_number" (wC (.int 0))) (wnSeq (wnSet "write_number" (wC (.int 0))) (wnSeq (wnSet "open_read" (wC .non)) (wnSeq (wnSet "open_write" (wC .non)) (wnSet "floor" (wTup (waCons (wC (.int 0)) (waCons (wC (.int 0)) waNil))))))))))))
theorem ok_Reader___init__ {f : Addr} {fd : FuncData} {kws : List (Str × V)} (F : FunD K "__init__" "Reader.__init__" (defArgs s_Reader___init__) (defBody s_Reader___init__) (defScope s_Reader___init__) [] kws f fd) (D_need_number_3 : CallD P w K mg base 3 "need_number" w_need_number []) (c__MOST_READER : ∃ t, mg "_MOST_READER" = some (.int 5 t)) (c__MOST_PLACE : ∃ t, mg "_MOST_PLACE" = some (.int 6 t)) (cl_Reader : Cls K (He.ga K "Reader")) (nA_Reader_number : NoAttr K (He.ga K "Reader") "number") (nA_Reader_place : NoAttr K (He.ga K "Reader") "place") (nA_Reader_read_number : NoAttr K (He.ga K "Reader") "read_number") (nA_Reader_write_number : NoAttr K (He.ga K "Reader") "write_number") (nA_Reader_open_read : NoAttr K (He.ga K "Reader") "open_read") (nA_Reader_open_write : NoAttr K (He.ga K "Reader") "open_write") (nA_Reader_floor : NoAttr K (He.ga K "Reader") "floor") : FnOk P w K mg base CX0 4 f fd ["self", "number", "place"] (spN K (He.ga K "Reader") w_Reader___init__) :=
  by
  refine fn_init F sc_Reader___init__ rfl rfl fun cdv A outer s H E hr => ?_
  exact (gns_cons (gn_expr (ge_callD D_need_number_3 hr (by rfl) CTs.nil (ga_cons (ge_var 1) (ga_cons ge_int (ga_cons (ge_globI (by rfl) c__MOST_READER) ga_nil))))) (gns_cons (gn_expr (ge_callD D_need_number_3 hr (by rfl) CTs.nil (ga_cons (ge_var 2) (ga_cons ge_int (ga_cons (ge_globI (by rfl) c__MOST_PLACE) ga_nil))))) (gns_cons (gn_set cl_Reader nA_Reader_number (ge_var 1)) (gns_cons (gn_set cl_Reader nA_Reader_place (ge_var 2)) (gns_cons (gn_set cl_Reader nA_Reader_read_number ge_int) (gns_cons (gn_set cl_Reader nA_Reader_write_number ge_int) (gns_cons (gn_set cl_Reader nA_Reader_open_read ge_non) (gns_cons (gn_set cl_Reader nA_Reader_open_write ge_non) (gns_one (gn_set cl_Reader nA_Reader_floor (ge_tup (ga_cons ge_int (ga_cons ge_int ga_nil)))))))))))))

abbrev N_are_ascending : List Str := ["keys", "early", "late"]
theorem sc_are_ascending : FnScope N_are_ascending ["keys"] (defScope s_are_ascending) := ⟨rfl, rfl, rfl, by decide +kernel, rfl, by decide +kernel, by decide +kernel⟩
def w_are_ascending : WF := wDef 1 2 (wRet (wCB allT (waCons (wL (wLc (wiZipA (waCons (wVar 0) (waCons (wSl (wVar 0) (woSome (wC (.int 1))) woNone) waNil))) (Tg.names [1, 2]) wYes (wOp ltT (wVar 1) (wVar 2)) [1, 2])) waNil)))
theorem ok_are_ascending {f : Addr} {fd : FuncData} (F : FunD K "are_ascending" "are_ascending" (defArgs s_are_ascending) (defBody s_are_ascending) (defScope s_are_ascending) [] [] f fd) (b_all : mg "all" = none) (b_zip : mg "zip" = none) : FnOk P w K mg base CX0 1 f fd ["keys"] (spT K w_are_ascending) :=
  by
  refine fn_tree F sc_are_ascending rfl rfl fun cdv A outer s H E hr => ?_
  refine (gss_one ?_)
  · refine (gs_ret ?_)
    · refine (ge_cb (cr_all (by rfl)) sc_all (by rfl) b_all (by decide +kernel) ?_)
      · refine (ga_cons ?_ ga_nil)
        · refine (GL.ge ?_)
          · refine (gl_lc (own := [("early", 1), ("late", 2)]) (g := (Tg.names [1, 2])) (tt := tYes) (by rfl) sc_are_ascending.nd ?_ (by first | exact blkOk_by (own := [("early", 1), ("late", 2)]) (N := N_are_ascending) (sc := defScope s_are_ascending) (by decide +kernel) | exact blkOk_by (own := [("early", 1), ("late", 2)]) (N := N_are_ascending) (by kernel_rfl)) (fun _ _ _ _ _ => ?_) (fun _ _ _ _ _ => ?_) st_yes (fun _ _ _ _ _ => ?_) (by decide) (by intro _; rfl))
            · exact (gi_zipA (by rfl) b_zip (ga_cons (ge_var 0) (ga_cons (ge_sl (ge_var 0) (go_some ge_int) go_none) ga_nil)))
            · exact (pg_tup (by rfl) (pgs_cons (pg_name (i := 1) sc_are_ascending.nd (by rfl) (by first | exact Or.inl rfl | exact Or.inr rfl) (by first | exact .inl rfl | exact .inr rfl)) (pgs_cons (pg_name (i := 2) sc_are_ascending.nd (by rfl) (by first | exact Or.inl rfl | exact Or.inr rfl) (by first | exact .inl rfl | exact .inr rfl)) pgs_nil)))
            · exact pts_nil
            · exact (ge_cmp op_ltA sop_lt (ge_var 1) (ge_var 2))

abbrev N_is_key : List Str := ["value", "letter"]
theorem sc_is_key : FnScope N_is_key ["value"] (defScope s_is_key) := ⟨rfl, rfl, rfl, by decide +kernel, rfl, by decide +kernel, by decide +kernel⟩
def w_is_key : WF := wDef 1 1 (wSeq (wIf (wOr (wNot (wTru (wCB isiT (waCons (wVar 0) (waCons (wC (.ty "str")) waNil))))) (wNot (wB (wChain leT leT (wC (.int 1)) (wCB lenT (waCons (wVar 0) waNil)) (wC (.int 8)))))) (wRet (wC (.bl false))) wNext) (wRet (wCB allT (waCons (wL (wLc (wiStr (wVar 0)) (Tg.name 1) wYes (wOp (inSg false) (wVar 1) (wC (.str "abcdefghijklmnopqrstuvwxyz"))) [1])) waNil))))
theorem ok_is_key {f : Addr} {fd : FuncData} (F : FunD K "is_key" "is_key" (defArgs s_is_key) (defBody s_is_key) (defScope s_is_key) [] [] f fd) (b_len : mg "len" = none) (c_MOST_KEY : ∃ t, mg "MOST_KEY" = some (.int 8 t)) (b_isinstance : mg "isinstance" = none) (b_str : mg "str" = none) (b_all : mg "all" = none) (c__LETTERS : ∃ t, mg "_LETTERS" = some (.str "abcdefghijklmnopqrstuvwxyz" t)) : FnOk P w K mg base CX0 1 f fd ["value"] (spT K w_is_key) :=
  by
  refine fn_tree F sc_is_key rfl rfl fun cdv A outer s H E hr => ?_
  refine (gss_cons (gs_if (GW.gt (gw_or (gt_not (gt_tru (ge_cb call_isi sc_isi (by rfl) b_isinstance (by decide +kernel) (ga_cons (ge_var 0) (ga_cons (ge_ty (by rfl) b_str (by decide +kernel)) ga_nil))))) (gw_or1 (gt_not (gt_chain op_leA op_leA sop_le sop_le ge_int (ge_cb call_len sc_len (by rfl) b_len (by decide +kernel) (ga_cons (ge_var 0) ga_nil)) (ge_globI (by rfl) c_MOST_KEY)))))) (gss_one (gs_ret ge_bl)) gss_nil) ?_)
  · refine (gss_one ?_)
    · refine (gs_ret ?_)
      · refine (ge_cb (cr_all (by rfl)) sc_all (by rfl) b_all (by decide +kernel) ?_)
        · refine (ga_cons ?_ ga_nil)
          · refine (GL.ge ?_)
            · refine (gl_lc (own := [("letter", 1)]) (g := (Tg.name 1)) (tt := tYes) (by rfl) sc_is_key.nd ?_ (by first | exact blkOk_by (own := [("letter", 1)]) (N := N_is_key) (sc := defScope s_is_key) (by decide +kernel) | exact blkOk_by (own := [("letter", 1)]) (N := N_is_key) (by kernel_rfl)) (fun _ _ _ _ _ => ?_) (fun _ _ _ _ _ => ?_) st_yes (fun _ _ _ _ _ => ?_) (by decide) (by intro _; rfl))
              · exact (gi_str (ge_var 0))
              · exact (pg_name (i := 1) sc_is_key.nd (by rfl) (by first | exact Or.inl rfl | exact Or.inr rfl) (by first | exact .inl rfl | exact .inr rfl))
              · exact pts_nil
              · exact (ge_cmp op_inS sop_inS (ge_var 1) (ge_globS (by rfl) c__LETTERS))

abbrev N_is_value : List Str := ["value"]
theorem sc_is_value : FnScope N_is_value ["value"] (defScope s_is_value) := ⟨rfl, rfl, rfl, by decide +kernel, rfl, by decide +kernel, by decide +kernel⟩
def w_is_value : WF := wDef 1 0 (wRet (wCall w_is_within [] (waCons (wVar 0) (waCons (wUn negT (wC (.int 999999999999))) (waCons (wC (.int 999999999999)) waNil)))))
theorem ok_is_value {f : Addr} {fd : FuncData} (F : FunD K "is_value" "is_value" (defArgs s_is_value) (defBody s_is_value) (defScope s_is_value) [] [] f fd) (D_is_within_3 : CallD P w K mg base 2 "is_within" w_is_within []) (c_MOST_VALUE : ∃ t, mg "MOST_VALUE" = some (.int 999999999999 t)) : FnOk P w K mg base CX0 3 f fd ["value"] (spT K w_is_value) :=
  by
  refine fn_tree F sc_is_value rfl rfl fun cdv A outer s H E hr => ?_
  exact (gss_one (gs_ret (ge_callD D_is_within_3 hr (by rfl) CTs.nil (ga_cons (ge_var 0) (ga_cons (ge_neg (ge_globI (by rfl) c_MOST_VALUE)) (ga_cons (ge_globI (by rfl) c_MOST_VALUE) ga_nil))))))

abbrev N_is_value_or_none : List Str := ["value"]
theorem sc_is_value_or_none : FnScope N_is_value_or_none ["value"] (defScope s_is_value_or_none) := ⟨rfl, rfl, rfl, by decide +kernel, rfl, by decide +kernel, by decide +kernel⟩
def w_is_value_or_none : WF := wDef 1 0 (wRet (wOrV (wIsN false (wVar 0)) (wCall w_is_value [] (waCons (wVar 0) waNil))))
theorem ok_is_value_or_none {f : Addr} {fd : FuncData} (F : FunD K "is_value_or_none" "is_value_or_none" (defArgs s_is_value_or_none) (defBody s_is_value_or_none) (defScope s_is_value_or_none) [] [] f fd) (D_is_value : CallD P w K mg base 3 "is_value" w_is_value []) : FnOk P w K mg base CX0 4 f fd ["value"] (spT K w_is_value_or_none) :=
  by
  refine fn_tree F sc_is_value_or_none rfl rfl fun cdv A outer s H E hr => ?_
  exact (gss_one (gs_ret (ge_or (ge_isN (ge_var 0)) (ge_one (ge_callD D_is_value hr (by rfl) CTs.nil (ga_cons (ge_var 0) ga_nil))))))

abbrev N__is_setting : List Str := ["value"]
theorem sc__is_setting : FnScope N__is_setting ["value"] (defScope s__is_setting) := ⟨rfl, rfl, rfl, by decide +kernel, rfl, by decide +kernel, by decide +kernel⟩
def w__is_setting : WF := wDef 1 0 (wSeq (wIf (wOr (wNot (wTru (wCB isiT (waCons (wVar 0) (waCons (wC (.ty "tuple")) waNil))))) (wB (wOp neT (wCB lenT (waCons (wVar 0) waNil)) (wC (.int 2))))) (wRet (wC (.bl false))) wNext) (wRet (wAndV (wCall w_is_key [] (waCons (wOp ixT (wVar 0) (wC (.int 0))) waNil)) (wCall w_is_value_or_none [] (waCons (wOp ixT (wVar 0) (wC (.int 1))) waNil)))))
theorem ok__is_setting {f : Addr} {fd : FuncData} (F : FunD K "_is_setting" "_is_setting" (defArgs s__is_setting) (defBody s__is_setting) (defScope s__is_setting) [] [] f fd) (b_len : mg "len" = none) (b_isinstance : mg "isinstance" = none) (b_tuple : mg "tuple" = none) (D_is_value_or_none : CallD P w K mg base 4 "is_value_or_none" w_is_value_or_none []) (D_is_key : CallD P w K mg base 1 "is_key" w_is_key []) : FnOk P w K mg base CX0 5 f fd ["value"] (spT K w__is_setting) :=
  by
  refine fn_tree F sc__is_setting rfl rfl fun cdv A outer s H E hr => ?_
  exact (gss_cons (gs_if (GW.gt (gw_or (gt_not (gt_tru (ge_cb call_isi sc_isi (by rfl) b_isinstance (by decide +kernel) (ga_cons (ge_var 0) (ga_cons (ge_ty (by rfl) b_tuple (by decide +kernel)) ga_nil))))) (gw_or1 (gt_cmp (op_neD hr.units) sop_ne (ge_cb call_len sc_len (by rfl) b_len (by decide +kernel) (ga_cons (ge_var 0) ga_nil)) ge_int)))) (gss_one (gs_ret ge_bl)) gss_nil) (gss_one (gs_ret (ge_and (ge_callD D_is_key hr (by rfl) CTs.nil (ga_cons (ge_ix (ge_var 0) ge_int) ga_nil)) (ge_one (ge_callD D_is_value_or_none hr (by rfl) CTs.nil (ga_cons (ge_ix (ge_var 0) ge_int) ga_nil)))))))

abbrev N_is_deed : List Str := ["value", "key", "_", "setting"]
theorem sc_is_deed : FnScope N_is_deed ["value"] (defScope s_is_deed) := ⟨rfl, rfl, rfl, by decide +kernel, rfl, by decide +kernel, by decide +kernel⟩
def w_is_deed : WF := wDef 1 3 (wSeq (wIf (wOr (wNot (wTru (wCB isiT (waCons (wVar 0) (waCons (wC (.ty "tuple")) waNil))))) (wNot (wB (wChain leT leT (wC (.int 1)) (wCB lenT (waCons (wVar 0) waNil)) (wC (.int 6)))))) (wRet (wC (.bl false))) wNext) (wSeq (wIf (wNot (wTru (wCB allT (waCons (wL (wLc (wiSeq (wVar 0)) (Tg.name 3) wYes (wCall w__is_setting [] (waCons (wVar 3) waNil)) [3])) waNil)))) (wRet (wC (.bl false))) wNext) (wRet (wCall w_are_ascending [] (waCons (wL (wLc (wiSeq (wVar 0)) (Tg.names [1, 2]) wYes (wVar 1) [1, 2])) waNil)))))
theorem ok_is_deed {f : Addr} {fd : FuncData} (F : FunD K "is_deed" "is_deed" (defArgs s_is_deed) (defBody s_is_deed) (defScope s_is_deed) [] [] f fd) (b_len : mg "len" = none) (c_MOST_SET : ∃ t, mg "MOST_SET" = some (.int 6 t)) (b_isinstance : mg "isinstance" = none) (b_tuple : mg "tuple" = none) (b_all : mg "all" = none) (D__is_setting : CallD P w K mg base 5 "_is_setting" w__is_setting []) (D_are_ascending : CallD P w K mg base 1 "are_ascending" w_are_ascending []) : FnOk P w K mg base CX0 6 f fd ["value"] (spT K w_is_deed) :=
  by
  refine fn_tree F sc_is_deed rfl rfl fun cdv A outer s H E hr => ?_
  refine (gss_cons (gs_if (GW.gt (gw_or (gt_not (gt_tru (ge_cb call_isi sc_isi (by rfl) b_isinstance (by decide +kernel) (ga_cons (ge_var 0) (ga_cons (ge_ty (by rfl) b_tuple (by decide +kernel)) ga_nil))))) (gw_or1 (gt_not (gt_chain op_leA op_leA sop_le sop_le ge_int (ge_cb call_len sc_len (by rfl) b_len (by decide +kernel) (ga_cons (ge_var 0) ga_nil)) (ge_globI (by rfl) c_MOST_SET)))))) (gss_one (gs_ret ge_bl)) gss_nil) ?_)
  · refine (gss_cons ?_ ?_)
    · refine (gs_if ?_ (gss_one (gs_ret ge_bl)) gss_nil)
      · refine (gt_not ?_)
        · refine (gt_tru ?_)
          · refine (ge_cb (cr_all (by rfl)) sc_all (by rfl) b_all (by decide +kernel) ?_)
            · refine (ga_cons ?_ ga_nil)
              · refine (GL.ge ?_)
                · refine (gl_lc (own := [("setting", 3)]) (g := (Tg.name 3)) (tt := tYes) (by rfl) sc_is_deed.nd ?_ (by first | exact blkOk_by (own := [("setting", 3)]) (N := N_is_deed) (sc := defScope s_is_deed) (by decide +kernel) | exact blkOk_by (own := [("setting", 3)]) (N := N_is_deed) (by kernel_rfl)) (fun _ _ _ _ _ => ?_) (fun _ _ _ _ _ => ?_) st_yes (fun _ _ _ _ _ => ?_) (by decide) (by intro _; rfl))
                  · exact (gi_seq (ge_var 0))
                  · exact (pg_name (i := 3) sc_is_deed.nd (by rfl) (by first | exact Or.inl rfl | exact Or.inr rfl) (by first | exact .inl rfl | exact .inr rfl))
                  · exact pts_nil
                  · exact (ge_callD D__is_setting hr (by rfl) CTs.nil (ga_cons (ge_var 3) ga_nil))
    · refine (gss_one ?_)
      · refine (gs_ret ?_)
        · refine (ge_callD D_are_ascending hr (by rfl) CTs.nil ?_)
          · refine (ga_cons ?_ ga_nil)
            · refine (GL.ge ?_)
              · refine (gl_lc (own := [("key", 1), ("_", 2)]) (g := (Tg.names [1, 2])) (tt := tYes) (by rfl) sc_is_deed.nd ?_ (by first | exact blkOk_by (own := [("key", 1), ("_", 2)]) (N := N_is_deed) (sc := defScope s_is_deed) (by decide +kernel) | exact blkOk_by (own := [("key", 1), ("_", 2)]) (N := N_is_deed) (by kernel_rfl)) (fun _ _ _ _ _ => ?_) (fun _ _ _ _ _ => ?_) st_yes (fun _ _ _ _ _ => ?_) (by decide) (by intro _; rfl))
                · exact (gi_seq (ge_var 0))
                · exact (pg_tup (by rfl) (pgs_cons (pg_name (i := 1) sc_is_deed.nd (by rfl) (by first | exact Or.inl rfl | exact Or.inr rfl) (by first | exact .inl rfl | exact .inr rfl)) (pgs_cons (pg_name (i := 2) sc_is_deed.nd (by rfl) (by first | exact Or.inl rfl | exact Or.inr rfl) (by first | exact .inl rfl | exact .inr rfl)) pgs_nil)))
                · exact pts_nil
                · exact (ge_var 1)

abbrev N_need_deed : List Str := ["deed"]
theorem sc_need_deed : FnScope N_need_deed ["deed"] (defScope s_need_deed) := ⟨rfl, rfl, rfl, by decide +kernel, rfl, by decide +kernel, by decide +kernel⟩
def w_need_deed : WF := wDef 1 0 (wIf (wNot (wTru (wCall w_is_deed [] (waCons (wVar 0) waNil)))) wNever wNext)
theorem ok_need_deed {f : Addr} {fd : FuncData} (F : FunD K "need_deed" "need_deed" (defArgs s_need_deed) (defBody s_need_deed) (defScope s_need_deed) [] [] f fd) (D_is_deed : CallD P w K mg base 6 "is_deed" w_is_deed []) : FnOk P w K mg base CX0 7 f fd ["deed"] (spT K w_need_deed) :=
  by
  refine fn_tree F sc_need_deed rfl rfl fun cdv A outer s H E hr => ?_
  exact (gss_one (gs_if (gt_not (gt_tru (ge_callD D_is_deed hr (by rfl) CTs.nil (ga_cons (ge_var 0) ga_nil)))) (gss_one gs_never) gss_nil))

abbrev N_Reader__twin : List Str := ["self", "twin"]
theorem sc_Reader__twin : FnScope N_Reader__twin ["self"] (defScope s_Reader__twin) := ⟨rfl, rfl, rfl, by decide +kernel, rfl, by decide +kernel, by decide +kernel⟩
def w_Reader__twin (cN : Str → Addr) : WM := wDefF 1 1 (wMkF 1 [] w_Reader___init__ (waCons (wFld (cN "Reader") "number" (wVar 0)) (waCons (wFld (cN "Reader") "place" (wVar 0)) waNil)) (wnSeq (wnPut "read_number" (wFld (cN "Reader") "read_number" (wVar 0))) (wnSeq (wnPut "write_number" (wFld (cN "Reader") "write_number" (wVar 0))) (wnSeq (wnPut "open_read" (wFld (cN "Reader") "open_read" (wVar 0))) (wnSeq (wnPut "open_write" (wFld (cN "Reader") "open_write" (wVar 0))) (wnSeq (wnPut "floor" (wFld (cN "Reader") "floor" (wVar 0))) wnNext))))))
theorem ok_Reader__twin {f : Addr} {fd : FuncData} (F : FunD K "_twin" "Reader._twin" (defArgs s_Reader__twin) (defBody s_Reader__twin) (defScope s_Reader__twin) [] [] f fd) (MP_Reader_2 : MakeP P w K mg base 4 "Reader" (He.ga K "Reader") [] w_Reader___init__) (cl_Reader : Cls K (He.ga K "Reader")) (nA_Reader_floor : NoAttr K (He.ga K "Reader") "floor") (nA_Reader_open_write : NoAttr K (He.ga K "Reader") "open_write") (nA_Reader_open_read : NoAttr K (He.ga K "Reader") "open_read") (nA_Reader_write_number : NoAttr K (He.ga K "Reader") "write_number") (nA_Reader_read_number : NoAttr K (He.ga K "Reader") "read_number") (nA_Reader_place : NoAttr K (He.ga K "Reader") "place") (nA_Reader_number : NoAttr K (He.ga K "Reader") "number") : FnOk P w K mg base CX0 6 f fd ["self"] (spF K (He.ga K "Reader") (w_Reader__twin (He.ga K))) :=
  by
  refine fn_treeF F sc_Reader__twin rfl rfl fun cdv A outer s H E hr => ?_
  exact (gsf_mk 1 MP_Reader_2 hr (by rfl) (ga_cons (ge_fld cl_Reader nA_Reader_number (ge_var 0)) (ga_cons (ge_fld cl_Reader nA_Reader_place (ge_var 0)) ga_nil)) (gbf_cons (gn_put cl_Reader nA_Reader_read_number (ge_fld cl_Reader nA_Reader_read_number (ge_var 0))) (gbf_cons (gn_put cl_Reader nA_Reader_write_number (ge_fld cl_Reader nA_Reader_write_number (ge_var 0))) (gbf_cons (gn_put cl_Reader nA_Reader_open_read (ge_fld cl_Reader nA_Reader_open_read (ge_var 0))) (gbf_cons (gn_put cl_Reader nA_Reader_open_write (ge_fld cl_Reader nA_Reader_open_write (ge_var 0))) (gbf_cons (gn_put cl_Reader nA_Reader_floor (ge_fld cl_Reader nA_Reader_floor (ge_var 0))) gbf_ret))))) sc_Reader__twin.nd)

abbrev N_Reader_with_write : List Str := ["self", "deed", "after"]
theorem sc_Reader_with_write : FnScope N_Reader_with_write ["self", "deed"] (defScope s_Reader_with_write) := ⟨rfl, rfl, rfl, by decide +kernel, rfl, by decide +kernel, by decide +kernel⟩
def w_Reader_with_write (cN : Str → Addr) : WF := wDef 2 1 (wSeq (wDrop (wCall w_need_deed [] (waCons (wVar 1) waNil))) (wSeq (wIf (wB (wIsN true (wFld (cN "Reader") "open_write" (wVar 0)))) wNever wNext) (wTwB 2 (cN "Reader") "_twin" (w_Reader__twin cN) [] (wVar 0) (cN "Reader") (wnSeq (wnAug "write_number" (wC (.int 1))) (wnSeq (wnPutS 2 (cN "Reader") "open_write" (wTup (waCons (wFld (cN "Reader") "write_number" (wVar 2)) (waCons (wVar 1) waNil)))) wnNext)))))
theorem ok_Reader_with_write {f : Addr} {fd : FuncData} (F : FunD K "with_write" "Reader.with_write" (defArgs s_Reader_with_write) (defBody s_Reader_with_write) (defScope s_Reader_with_write) [] [] f fd) (cl_Reader : Cls K (He.ga K "Reader")) (MF_Reader__twin : MethF P w K mg base 6 (He.ga K "Reader") "_twin" (He.ga K "Reader") (w_Reader__twin (He.ga K)) []) (nA_Reader_open_write : NoAttr K (He.ga K "Reader") "open_write") (nA_Reader_write_number : NoAttr K (He.ga K "Reader") "write_number") (D_need_deed : CallD P w K mg base 7 "need_deed" w_need_deed []) : FnOk P w K mg base CX0 8 f fd ["self", "deed"] (spT K (w_Reader_with_write (He.ga K))) :=
  by
  refine fn_tree F sc_Reader_with_write rfl rfl fun cdv A outer s H E hr => ?_
  exact (gss_cons (gs_expr (ge_callD D_need_deed hr (by rfl) CTs.nil (ga_cons (ge_var 1) ga_nil))) (gss_cons (gs_if (gt_notN (ge_fld cl_Reader nA_Reader_open_write (ge_var 0))) (gss_one gs_never) gss_nil) (gss_twB 2 MF_Reader__twin cl_Reader hr .nil (ge_var 0) (gb_cons (gn_aug cl_Reader nA_Reader_write_number ge_int) (gb_cons (gn_putS cl_Reader nA_Reader_open_write (ge_tup (ga_cons (ge_fld cl_Reader nA_Reader_write_number (ge_var 2)) (ga_cons (ge_var 1) ga_nil)))) gb_ret)) sc_Reader_with_write.nd)))

abbrev N__is_row_of_keys : List Str := ["value", "key"]
theorem sc__is_row_of_keys : FnScope N__is_row_of_keys ["value"] (defScope s__is_row_of_keys) := ⟨rfl, rfl, rfl, by decide +kernel, rfl, by decide +kernel, by decide +kernel⟩
def w__is_row_of_keys : WF := wDef 1 1 (wSeq (wIf (wOr (wNot (wTru (wCB isiT (waCons (wVar 0) (waCons (wC (.ty "tuple")) waNil))))) (wOr (wNot (wTru (wVar 0))) (wNot (wTru (wCB allT (waCons (wL (wLc (wiSeq (wVar 0)) (Tg.name 1) wYes (wCall w_is_key [] (waCons (wVar 1) waNil)) [1])) waNil)))))) (wRet (wC (.bl false))) wNext) (wRet (wCall w_are_ascending [] (waCons (wVar 0) waNil))))
theorem ok__is_row_of_keys {f : Addr} {fd : FuncData} (F : FunD K "_is_row_of_keys" "_is_row_of_keys" (defArgs s__is_row_of_keys) (defBody s__is_row_of_keys) (defScope s__is_row_of_keys) [] [] f fd) (b_all : mg "all" = none) (D_is_key : CallD P w K mg base 1 "is_key" w_is_key []) (b_isinstance : mg "isinstance" = none) (b_tuple : mg "tuple" = none) (D_are_ascending : CallD P w K mg base 1 "are_ascending" w_are_ascending []) : FnOk P w K mg base CX0 2 f fd ["value"] (spT K w__is_row_of_keys) :=
  by
  refine fn_tree F sc__is_row_of_keys rfl rfl fun cdv A outer s H E hr => ?_
  refine (gss_cons ?_ (gss_one (gs_ret (ge_callD D_are_ascending hr (by rfl) CTs.nil (ga_cons (ge_var 0) ga_nil)))))
  · refine (gs_if ?_ (gss_one (gs_ret ge_bl)) gss_nil)
    · refine (GW.gt ?_)
      · refine (gw_or (gt_not (gt_tru (ge_cb call_isi sc_isi (by rfl) b_isinstance (by decide +kernel) (ga_cons (ge_var 0) (ga_cons (ge_ty (by rfl) b_tuple (by decide +kernel)) ga_nil))))) ?_)
        · refine (gw_or (gt_not (gt_tru (ge_var 0))) ?_)
          · refine (gw_or1 ?_)
            · refine (gt_not ?_)
              · refine (gt_tru ?_)
                · refine (ge_cb (cr_all (by rfl)) sc_all (by rfl) b_all (by decide +kernel) ?_)
                  · refine (ga_cons ?_ ga_nil)
                    · refine (GL.ge ?_)
                      · refine (gl_lc (own := [("key", 1)]) (g := (Tg.name 1)) (tt := tYes) (by rfl) sc__is_row_of_keys.nd ?_ (by first | exact blkOk_by (own := [("key", 1)]) (N := N__is_row_of_keys) (sc := defScope s__is_row_of_keys) (by decide +kernel) | exact blkOk_by (own := [("key", 1)]) (N := N__is_row_of_keys) (by kernel_rfl)) (fun _ _ _ _ _ => ?_) (fun _ _ _ _ _ => ?_) st_yes (fun _ _ _ _ _ => ?_) (by decide) (by intro _; rfl))
                        · exact (gi_seq (ge_var 0))
                        · exact (pg_name (i := 1) sc__is_row_of_keys.nd (by rfl) (by first | exact Or.inl rfl | exact Or.inr rfl) (by first | exact .inl rfl | exact .inr rfl))
                        · exact pts_nil
                        · exact (ge_callD D_is_key hr (by rfl) CTs.nil (ga_cons (ge_var 1) ga_nil))

abbrev N__size_of_leaf : List Str := ["value", "word", "told"]
theorem sc__size_of_leaf : FnScope N__size_of_leaf ["value"] (defScope s__size_of_leaf) := ⟨rfl, rfl, rfl, by decide +kernel, rfl, by decide +kernel, by decide +kernel⟩
def w__size_of_leaf : WF := wDef 1 2 (wSeq (wIf (wB (wOp neT (wCB lenT (waCons (wVar 0) waNil)) (wC (.int 2)))) (wRet (wC .non)) wNext) (wSeq (wAsgT (wVar 0) [1, 2]) (wSeq (wIf (wB (wOp eqT (wVar 1) (wC (.str "number")))) (wRet (wIfE (wTru (wCall w_is_within [] (waCons (wVar 2) (waCons (wUn negT (wC (.int 999999999999))) (waCons (wC (.int 999999999999)) waNil))))) (wC (.int 1)) (wC .non))) wNext) (wSeq (wIf (wB (wOp (isIn false) (wVar 1) (wTup (waCons (wC (.str "key")) (waCons (wC (.str "there")) waNil))))) (wRet (wIfE (wTru (wCall w_is_key [] (waCons (wVar 2) waNil))) (wC (.int 1)) (wC .non))) wNext) (wSeq (wIf (wB (wOp (isIn false) (wVar 1) (wTup (waCons (wC (.str "sum")) (waCons (wC (.str "many")) waNil))))) (wRet (wIfE (wTru (wCall w__is_row_of_keys [] (waCons (wVar 2) waNil))) (wOp addT (wC (.int 1)) (wCB lenT (waCons (wVar 2) waNil))) (wC .non))) wNext) (wRet (wC .non)))))))
theorem ok__size_of_leaf {f : Addr} {fd : FuncData} (F : FunD K "_size_of_leaf" "_size_of_leaf" (defArgs s__size_of_leaf) (defBody s__size_of_leaf) (defScope s__size_of_leaf) [] [] f fd) (b_len : mg "len" = none) (D_is_within_3 : CallD P w K mg base 2 "is_within" w_is_within []) (c_MOST_VALUE : ∃ t, mg "MOST_VALUE" = some (.int 999999999999 t)) (D_is_key : CallD P w K mg base 1 "is_key" w_is_key []) (D__is_row_of_keys : CallD P w K mg base 2 "_is_row_of_keys" w__is_row_of_keys []) : FnOk P w K mg base CX0 3 f fd ["value"] (spT K w__size_of_leaf) :=
  by
  refine fn_tree F sc__size_of_leaf rfl rfl fun cdv A outer s H E hr => ?_
  exact (gss_cons (gs_if (gt_cmp (op_neD hr.units) sop_ne (ge_cb call_len sc_len (by rfl) b_len (by decide +kernel) (ga_cons (ge_var 0) ga_nil)) ge_int) (gss_one (gs_ret ge_non)) gss_nil) (gss_cons (gs_asgT [1, 2] (ge_var 0) (pg_tup (by rfl) (pgs_cons (pg_name (i := 1) sc__size_of_leaf.nd (by rfl) (by first | exact Or.inl rfl | exact Or.inr rfl) (by first | exact .inl rfl | exact .inr rfl)) (pgs_cons (pg_name (i := 2) sc__size_of_leaf.nd (by rfl) (by first | exact Or.inl rfl | exact Or.inr rfl) (by first | exact .inl rfl | exact .inr rfl)) pgs_nil)))) (gss_cons (gs_if (gt_cmp (op_eqD hr.units) sop_eq (ge_var 1) ge_str) (gss_one (gs_ret (ge_if (gt_tru (ge_callD D_is_within_3 hr (by rfl) CTs.nil (ga_cons (ge_var 2) (ga_cons (ge_neg (ge_globI (by rfl) c_MOST_VALUE)) (ga_cons (ge_globI (by rfl) c_MOST_VALUE) ga_nil))))) ge_int ge_non))) gss_nil) (gss_cons (gs_if (gt_cmp op_in_seq (sop_in false) (ge_var 1) (ge_tup (ga_cons ge_str (ga_cons ge_str ga_nil)))) (gss_one (gs_ret (ge_if (gt_tru (ge_callD D_is_key hr (by rfl) CTs.nil (ga_cons (ge_var 2) ga_nil))) ge_int ge_non))) gss_nil) (gss_cons (gs_if (gt_cmp op_in_seq (sop_in false) (ge_var 1) (ge_tup (ga_cons ge_str (ga_cons ge_str ga_nil)))) (gss_one (gs_ret (ge_if (gt_tru (ge_callD D__is_row_of_keys hr (by rfl) CTs.nil (ga_cons (ge_var 2) ga_nil))) (ge_op op_addA sop_add ge_int (ge_cb call_len sc_len (by rfl) b_len (by decide +kernel) (ga_cons (ge_var 2) ga_nil))) ge_non))) gss_nil) (gss_one (gs_ret ge_non)))))))

abbrev N__size_of_sides : List Str := ["value", "room", "size", "part", "inner"]
theorem sc__size_of_sides : FnScope N__size_of_sides ["value", "room"] (defScope s__size_of_sides) := ⟨rfl, rfl, rfl, by decide +kernel, rfl, by decide +kernel, by decide +kernel⟩
abbrev N_size_within : List Str := ["value", "room", "size"]
theorem sc_size_within : FnScope N_size_within ["value", "room"] (defScope s_size_within) := ⟨rfl, rfl, rfl, by decide +kernel, rfl, by decide +kernel, by decide +kernel⟩
mutual
def w__size_of_sides : Nat → WF
  | 0 => fun _ _ => False
  | n + 1 => wDef 2 3 (wSeq (wIf (wB (wOp neT (wCB lenT (waCons (wVar 0) waNil)) (wOp addT (wKD [("plus", (.int 2)), ("minus", (.int 2)), ("times", (.int 2)), ("least", (.int 2)), ("most", (.int 2)), ("less", (.int 2)), ("same", (.int 2)), ("both", (.int 2)), ("any", (.int 2)), ("if", (.int 3))] (wOp ixT (wVar 0) (wC (.int 0)))) (wC (.int 1))))) (wRet (wC .non)) wNext) (wSeq (wAsg (wC (.int 1)) 2) (wSeq (wFor (wiSeq (wSl (wVar 0) (woSome (wC (.int 1))) woNone)) (Tg.name 3) (wSeq (wAsg (wCall (w_size_within n) [] (waCons (wVar 3) (waCons (wOp subT (wVar 1) (wVar 2)) waNil))) 4) (wSeq (wIf (wB (wIsN false (wVar 4))) (wRet (wC .non)) wNext) (wAug (fun i j => i + j) 2 (wVar 4))))) (wRet (wVar 2)))))
def w_size_within : Nat → WF
  | 0 => fun _ _ => False
  | n + 1 => wDef 2 1 (wSeq (wIf (wOr (wNot (wTru (wCB isiT (waCons (wVar 0) (waCons (wC (.ty "tuple")) waNil))))) (wOr (wNot (wTru (wVar 0))) (wNot (wTru (wCB isiT (waCons (wOp ixT (wVar 0) (wC (.int 0))) (waCons (wC (.ty "str")) waNil))))))) (wRet (wC .non)) wNext) (wSeq (wIf (wB (wKIn false ["plus", "minus", "times", "least", "most", "less", "same", "both", "any", "if"] (wOp ixT (wVar 0) (wC (.int 0))))) (wAsg (wCall (w__size_of_sides n) [] (waCons (wVar 0) (waCons (wVar 1) waNil))) 2) (wAsg (wCall w__size_of_leaf [] (waCons (wVar 0) waNil)) 2)) (wRet (wIfE (wOr (wB (wIsN false (wVar 2))) (wB (wOp gtT (wVar 2) (wVar 1)))) (wC .non) (wVar 2)))))
end
theorem okr_size_within {f0 : Addr} {fd0 : FuncData} (F0 : FunD K "_size_of_sides" "_size_of_sides" (defArgs s__size_of_sides) (defBody s__size_of_sides) (defScope s__size_of_sides) [] [] f0 fd0) (S0 : SelfC P w K mg base "_size_of_sides" f0 fd0 ["value", "room"]) {f1 : Addr} {fd1 : FuncData} (F1 : FunD K "size_within" "size_within" (defArgs s_size_within) (defBody s_size_within) (defScope s_size_within) [] [] f1 fd1) (S1 : SelfC P w K mg base "size_within" f1 fd1 ["value", "room"]) (b_len : mg "len" = none) (KD_SIDES : KD K w mg "SIDES" [("plus", (.int 2)), ("minus", (.int 2)), ("times", (.int 2)), ("least", (.int 2)), ("most", (.int 2)), ("less", (.int 2)), ("same", (.int 2)), ("both", (.int 2)), ("any", (.int 2)), ("if", (.int 3))]) (b_isinstance : mg "isinstance" = none) (b_str : mg "str" = none) (b_tuple : mg "tuple" = none) (KIN_SIDES : KIn K w mg "SIDES" ["plus", "minus", "times", "least", "most", "less", "same", "both", "any", "if"]) (D__size_of_leaf : CallD P w K mg base 3 "_size_of_leaf" w__size_of_leaf []) : ∀ n, FnOk P w K mg base CX0 (3 + n) f0 fd0 ["value", "room"] (spT K (w__size_of_sides n)) ∧ FnOk P w K mg base CX0 (3 + n) f1 fd1 ["value", "room"] (spT K (w_size_within n))
  | 0 => ⟨fn_zero, fn_zero⟩
  | n + 1 => by
    have IH := okr_size_within F0 S0 F1 S1 b_len KD_SIDES b_isinstance b_str b_tuple KIN_SIDES D__size_of_leaf n
    have D__size_of_sides := S0 _ _ IH.1
    have D_size_within := S1 _ _ IH.2
    refine ⟨?_, ?_⟩
    · refine fn_tree (k := 3 + n) F0 sc__size_of_sides rfl rfl fun cdv A outer s H E hrn => ?_
      have hr := hrn.mono (Nat.le_add_right 3 n)
      exact (gss_cons (gs_if (gt_cmp (op_neD hr.units) sop_ne (ge_cb call_len sc_len (by rfl) b_len (by decide +kernel) (ga_cons (ge_var 0) ga_nil)) (ge_op op_addA sop_add (ge_kd KD_SIDES (by rfl) (ge_ix (ge_var 0) ge_int)) ge_int)) (gss_one (gs_ret ge_non)) gss_nil) (gss_cons (gs_asg 2 ge_int sc__size_of_sides.nd) (gss_cons (gs_for (g := (Tg.name 3)) PassesOwn.never (by rfl) (gi_seq (ge_sl (ge_var 0) (go_some ge_int) go_none)) (pg_name (i := 3) sc__size_of_sides.nd (by rfl) (by first | exact Or.inl rfl | exact Or.inr rfl) (by first | exact .inl rfl | exact .inr rfl)) (gss_cons (gs_asg 4 (ge_callD D_size_within hrn (by rfl) CTs.nil (ga_cons (ge_var 3) (ga_cons (ge_op op_sub sop_sub (ge_var 1) (ge_var 2)) ga_nil)) (Nat.le_refl _)) sc__size_of_sides.nd) (gss_cons (gs_if (gt_isN (ge_var 4)) (gss_one (gs_ret ge_non)) gss_nil) (gss_one (gs_aug 2 (ge_var 4) ip_add sc__size_of_sides.nd))))) (gss_one (gs_ret (ge_var 2))))))
    · refine fn_tree (k := 3 + n) F1 sc_size_within rfl rfl fun cdv A outer s H E hrn => ?_
      have hr := hrn.mono (Nat.le_add_right 3 n)
      exact (gss_cons (gs_if (GW.gt (gw_or (gt_not (gt_tru (ge_cb call_isi sc_isi (by rfl) b_isinstance (by decide +kernel) (ga_cons (ge_var 0) (ga_cons (ge_ty (by rfl) b_tuple (by decide +kernel)) ga_nil))))) (gw_or (gt_not (gt_tru (ge_var 0))) (gw_or1 (gt_not (gt_tru (ge_cb call_isi sc_isi (by rfl) b_isinstance (by decide +kernel) (ga_cons (ge_ix (ge_var 0) ge_int) (ga_cons (ge_ty (by rfl) b_str (by decide +kernel)) ga_nil))))))))) (gss_one (gs_ret ge_non)) gss_nil) (gss_cons (gs_if (gt_kin KIN_SIDES (by rfl) (ge_ix (ge_var 0) ge_int)) (gss_one (gs_asg 2 (ge_callD D__size_of_sides hrn (by rfl) CTs.nil (ga_cons (ge_var 0) (ga_cons (ge_var 1) ga_nil)) (Nat.le_refl _)) sc_size_within.nd)) (gss_one (gs_asg 2 (ge_callD D__size_of_leaf hr (by rfl) CTs.nil (ga_cons (ge_var 0) ga_nil)) sc_size_within.nd))) (gss_one (gs_ret (ge_if (GW.gt (gw_or (gt_isN (ge_var 2)) (gw_or1 (gt_cmp op_gtA sop_gt (ge_var 2) (ge_var 1))))) ge_non (ge_var 2))))))

abbrev N_is_question : List Str := ["value"]
theorem sc_is_question : FnScope N_is_question ["value"] (defScope s_is_question) := ⟨rfl, rfl, rfl, by decide +kernel, rfl, by decide +kernel, by decide +kernel⟩
def w_is_question : WF := wDef 1 0 (wRet (wIsN true (wCall (w_size_within 40) [] (waCons (wVar 0) (waCons (wC (.int 40)) waNil)))))
theorem ok_is_question {f : Addr} {fd : FuncData} (F : FunD K "is_question" "is_question" (defArgs s_is_question) (defBody s_is_question) (defScope s_is_question) [] [] f fd) (D_size_within : CallD P w K mg base 43 "size_within" (w_size_within 40) []) (c_MAX_SIZE : ∃ t, mg "MAX_SIZE" = some (.int 40 t)) : FnOk P w K mg base CX0 44 f fd ["value"] (spT K w_is_question) :=
  by
  refine fn_tree F sc_is_question rfl rfl fun cdv A outer s H E hr => ?_
  exact (gss_one (gs_ret (ge_notN (ge_callD D_size_within hr (by rfl) CTs.nil (ga_cons (ge_var 0) (ga_cons (ge_globI (by rfl) c_MAX_SIZE) ga_nil))))))

abbrev N_need_question : List Str := ["question"]
theorem sc_need_question : FnScope N_need_question ["question"] (defScope s_need_question) := ⟨rfl, rfl, rfl, by decide +kernel, rfl, by decide +kernel, by decide +kernel⟩
def w_need_question : WF := wDef 1 0 (wIf (wNot (wTru (wCall w_is_question [] (waCons (wVar 0) waNil)))) wNever wNext)
theorem ok_need_question {f : Addr} {fd : FuncData} (F : FunD K "need_question" "need_question" (defArgs s_need_question) (defBody s_need_question) (defScope s_need_question) [] [] f fd) (D_is_question : CallD P w K mg base 44 "is_question" w_is_question []) : FnOk P w K mg base CX0 45 f fd ["question"] (spT K w_need_question) :=
  by
  refine fn_tree F sc_need_question rfl rfl fun cdv A outer s H E hr => ?_
  exact (gss_one (gs_if (gt_not (gt_tru (ge_callD D_is_question hr (by rfl) CTs.nil (ga_cons (ge_var 0) ga_nil)))) (gss_one gs_never) gss_nil))

abbrev N_Reader_with_read : List Str := ["self", "question", "age", "after"]
theorem sc_Reader_with_read : FnScope N_Reader_with_read ["self", "question", "age"] (defScope s_Reader_with_read) := ⟨rfl, rfl, rfl, by decide +kernel, rfl, by decide +kernel, by decide +kernel⟩
def w_Reader_with_read (cN : Str → Addr) : WF := wDef 3 1 (wSeq (wDrop (wCall w_need_question [] (waCons (wVar 1) waNil))) (wSeq (wDrop (wCall w_need_number [] (waCons (wVar 2) (waCons (wC (.int 0)) (waCons (wC (.int 1000000)) waNil))))) (wSeq (wIf (wB (wIsN true (wFld (cN "Reader") "open_read" (wVar 0)))) wNever wNext) (wTwB 3 (cN "Reader") "_twin" (w_Reader__twin cN) [] (wVar 0) (cN "Reader") (wnSeq (wnAug "read_number" (wC (.int 1))) (wnSeq (wnPutS 3 (cN "Reader") "open_read" (wTup (waCons (wFld (cN "Reader") "read_number" (wVar 3)) (waCons (wVar 1) (waCons (wVar 2) waNil))))) wnNext))))))
theorem ok_Reader_with_read {f : Addr} {fd : FuncData} (F : FunD K "with_read" "Reader.with_read" (defArgs s_Reader_with_read) (defBody s_Reader_with_read) (defScope s_Reader_with_read) [] [] f fd) (cl_Reader : Cls K (He.ga K "Reader")) (MF_Reader__twin : MethF P w K mg base 6 (He.ga K "Reader") "_twin" (He.ga K "Reader") (w_Reader__twin (He.ga K)) []) (nA_Reader_open_read : NoAttr K (He.ga K "Reader") "open_read") (nA_Reader_read_number : NoAttr K (He.ga K "Reader") "read_number") (D_need_number_3 : CallD P w K mg base 3 "need_number" w_need_number []) (c_MOST_AGE : ∃ t, mg "MOST_AGE" = some (.int 1000000 t)) (D_need_question : CallD P w K mg base 45 "need_question" w_need_question []) : FnOk P w K mg base CX0 46 f fd ["self", "question", "age"] (spT K (w_Reader_with_read (He.ga K))) :=
  by
  refine fn_tree F sc_Reader_with_read rfl rfl fun cdv A outer s H E hr => ?_
  exact (gss_cons (gs_expr (ge_callD D_need_question hr (by rfl) CTs.nil (ga_cons (ge_var 1) ga_nil))) (gss_cons (gs_expr (ge_callD D_need_number_3 hr (by rfl) CTs.nil (ga_cons (ge_var 2) (ga_cons ge_int (ga_cons (ge_globI (by rfl) c_MOST_AGE) ga_nil))))) (gss_cons (gs_if (gt_notN (ge_fld cl_Reader nA_Reader_open_read (ge_var 0))) (gss_one gs_never) gss_nil) (gss_twB 3 MF_Reader__twin cl_Reader hr .nil (ge_var 0) (gb_cons (gn_aug cl_Reader nA_Reader_read_number ge_int) (gb_cons (gn_putS cl_Reader nA_Reader_open_read (ge_tup (ga_cons (ge_fld cl_Reader nA_Reader_read_number (ge_var 3)) (ga_cons (ge_var 1) (ga_cons (ge_var 2) ga_nil))))) gb_ret)) sc_Reader_with_read.nd))))

abbrev N__need_readers : List Str := ["readers", "reader"]
theorem sc__need_readers : FnScope N__need_readers ["readers"] (defScope s__need_readers) := ⟨rfl, rfl, rfl, by decide +kernel, rfl, by decide +kernel, by decide +kernel⟩
def w__need_readers (cN : Str → Addr) : WF := wDef 1 1 (wSeq (wIf (wOr (wNot (wTru (wIsX (cN "Reader") "tuple" (wVar 0)))) (wNot (wTru (wCB allT (waCons (wL (wLc (wiSeq (wVar 0)) (Tg.name 1) wYes (wIsI (cN "Reader") (wVar 1)) [1])) waNil))))) wNever wNext) (wIf (wNot (wTru (wCall w_are_ascending [] (waCons (wL (wLc (wiSeq (wVar 0)) (Tg.name 1) wYes (wFld (cN "Reader") "number" (wVar 1)) [1])) waNil)))) wNever wNext))
abbrev N_open_reads : List Str := ["readers", "reader"]
theorem sc_open_reads : FnScope N_open_reads ["readers"] (defScope s_open_reads) := ⟨rfl, rfl, rfl, by decide +kernel, rfl, by decide +kernel, by decide +kernel⟩
def w_open_reads (cN : Str → Addr) : WF := wDef 1 1 (wSeq (wDrop (wCall (w__need_readers cN) [] (waCons (wVar 0) waNil))) (wRet (wCB tupleT (waCons (wL (wLc (wiSeq (wVar 0)) (Tg.name 1) (wB (wIsN true (wFld (cN "Reader") "open_read" (wVar 1)))) (wFld (cN "Reader") "number" (wVar 1)) [1])) waNil))))
abbrev N_open_writes : List Str := ["readers", "reader"]
theorem sc_open_writes : FnScope N_open_writes ["readers"] (defScope s_open_writes) := ⟨rfl, rfl, rfl, by decide +kernel, rfl, by decide +kernel, by decide +kernel⟩
def w_open_writes (cN : Str → Addr) : WF := wDef 1 1 (wSeq (wDrop (wCall (w__need_readers cN) [] (waCons (wVar 0) waNil))) (wRet (wCB tupleT (waCons (wL (wLc (wiSeq (wVar 0)) (Tg.name 1) (wB (wIsN true (wFld (cN "Reader") "open_write" (wVar 1)))) (wFld (cN "Reader") "number" (wVar 1)) [1])) waNil))))
abbrev N_is_instant : List Str := ["value"]
theorem sc_is_instant : FnScope N_is_instant ["value"] (defScope s_is_instant) := ⟨rfl, rfl, rfl, by decide +kernel, rfl, by decide +kernel, by decide +kernel⟩
def w_is_instant : WF := wDef 1 0 (wSeq (wIf (wOr (wNot (wTru (wCB isiT (waCons (wVar 0) (waCons (wC (.ty "tuple")) waNil))))) (wB (wOp neT (wCB lenT (waCons (wVar 0) waNil)) (wC (.int 2))))) (wRet (wC (.bl false))) wNext) (wRet (wAndV (wCall w_is_within [.int 999999999999999999999999999999999999999999999999999999999999] (waCons (wOp ixT (wVar 0) (wC (.int 0))) (waCons (wC (.int 0)) waNil))) (wCall w_is_within [.int 999999999999999999999999999999999999999999999999999999999999] (waCons (wOp ixT (wVar 0) (wC (.int 1))) (waCons (wC (.int 0)) waNil))))))
theorem ok_is_instant {f : Addr} {fd : FuncData} (F : FunD K "is_instant" "is_instant" (defArgs s_is_instant) (defBody s_is_instant) (defScope s_is_instant) [] [] f fd) (b_len : mg "len" = none) (b_isinstance : mg "isinstance" = none) (b_tuple : mg "tuple" = none) (D_is_within_2 : CallD P w K mg base 2 "is_within" w_is_within [.int 999999999999999999999999999999999999999999999999999999999999]) : FnOk P w K mg base CX0 3 f fd ["value"] (spT K w_is_instant) :=
  by
  refine fn_tree F sc_is_instant rfl rfl fun cdv A outer s H E hr => ?_
  exact (gss_cons (gs_if (GW.gt (gw_or (gt_not (gt_tru (ge_cb call_isi sc_isi (by rfl) b_isinstance (by decide +kernel) (ga_cons (ge_var 0) (ga_cons (ge_ty (by rfl) b_tuple (by decide +kernel)) ga_nil))))) (gw_or1 (gt_cmp (op_neD hr.units) sop_ne (ge_cb call_len sc_len (by rfl) b_len (by decide +kernel) (ga_cons (ge_var 0) ga_nil)) ge_int)))) (gss_one (gs_ret ge_bl)) gss_nil) (gss_one (gs_ret (ge_and (ge_callD D_is_within_2 hr (by rfl) (CTs.cons (CT.int _) CTs.nil) (ga_cons (ge_ix (ge_var 0) ge_int) (ga_cons ge_int ga_nil))) (ge_one (ge_callD D_is_within_2 hr (by rfl) (CTs.cons (CT.int _) CTs.nil) (ga_cons (ge_ix (ge_var 0) ge_int) (ga_cons ge_int ga_nil))))))))

abbrev N_need_instant : List Str := ["instant"]
theorem sc_need_instant : FnScope N_need_instant ["instant"] (defScope s_need_instant) := ⟨rfl, rfl, rfl, by decide +kernel, rfl, by decide +kernel, by decide +kernel⟩
def w_need_instant : WF := wDef 1 0 (wIf (wNot (wTru (wCall w_is_instant [] (waCons (wVar 0) waNil)))) wNever wNext)
theorem ok_need_instant {f : Addr} {fd : FuncData} (F : FunD K "need_instant" "need_instant" (defArgs s_need_instant) (defBody s_need_instant) (defScope s_need_instant) [] [] f fd) (D_is_instant : CallD P w K mg base 3 "is_instant" w_is_instant []) : FnOk P w K mg base CX0 4 f fd ["instant"] (spT K w_need_instant) :=
  by
  refine fn_tree F sc_need_instant rfl rfl fun cdv A outer s H E hr => ?_
  exact (gss_one (gs_if (gt_not (gt_tru (ge_callD D_is_instant hr (by rfl) CTs.nil (ga_cons (ge_var 0) ga_nil)))) (gss_one gs_never) gss_nil))

abbrev N_joined_floor : List Str := ["floor", "other"]
theorem sc_joined_floor : FnScope N_joined_floor ["floor", "other"] (defScope s_joined_floor) := ⟨rfl, rfl, rfl, by decide +kernel, rfl, by decide +kernel, by decide +kernel⟩
def w_joined_floor : WF := wDef 2 0 (wSeq (wDrop (wCall w_need_instant [] (waCons (wVar 0) waNil))) (wSeq (wDrop (wCall w_need_instant [] (waCons (wVar 1) waNil))) (wRet (wTup (waCons (wCB max2T (waCons (wOp ixT (wVar 0) (wC (.int 0))) (waCons (wOp ixT (wVar 1) (wC (.int 0))) waNil))) (waCons (wCB max2T (waCons (wOp ixT (wVar 0) (wC (.int 1))) (waCons (wOp ixT (wVar 1) (wC (.int 1))) waNil))) waNil))))))
theorem ok_joined_floor {f : Addr} {fd : FuncData} (F : FunD K "joined_floor" "joined_floor" (defArgs s_joined_floor) (defBody s_joined_floor) (defScope s_joined_floor) [] [] f fd) (D_need_instant : CallD P w K mg base 4 "need_instant" w_need_instant []) (b_max : mg "max" = none) : FnOk P w K mg base CX0 5 f fd ["floor", "other"] (spT K w_joined_floor) :=
  by
  refine fn_tree F sc_joined_floor rfl rfl fun cdv A outer s H E hr => ?_
  exact (gss_cons (gs_expr (ge_callD D_need_instant hr (by rfl) CTs.nil (ga_cons (ge_var 0) ga_nil))) (gss_cons (gs_expr (ge_callD D_need_instant hr (by rfl) CTs.nil (ga_cons (ge_var 1) ga_nil))) (gss_one (gs_ret (ge_tup (ga_cons (ge_cb (call_max2 (by rfl)) sc_max2 (by rfl) b_max (by decide +kernel) (ga_cons (ge_ix (ge_var 0) ge_int) (ga_cons (ge_ix (ge_var 1) ge_int) ga_nil))) (ga_cons (ge_cb (call_max2 (by rfl)) sc_max2 (by rfl) b_max (by decide +kernel) (ga_cons (ge_ix (ge_var 0) ge_int) (ga_cons (ge_ix (ge_var 1) ge_int) ga_nil))) ga_nil)))))))

abbrev N_Reader_answered : List Str := ["self", "number", "low", "after"]
theorem sc_Reader_answered : FnScope N_Reader_answered ["self", "number", "low"] (defScope s_Reader_answered) := ⟨rfl, rfl, rfl, by decide +kernel, rfl, by decide +kernel, by decide +kernel⟩
def w_Reader_answered (cN : Str → Addr) : WF := wDef 3 1 (wSeq (wDrop (wCall w_need_number [.int 999999999999999999999999999999999999999999999999999999999999] (waCons (wVar 1) (waCons (wC (.int 1)) waNil)))) (wSeq (wDrop (wCall w_need_instant [] (waCons (wVar 2) waNil))) (wSeq (wIf (wOr (wB (wIsN false (wFld (cN "Reader") "open_read" (wVar 0)))) (wB (wOp neT (wOp ixT (wFld (cN "Reader") "open_read" (wVar 0)) (wC (.int 0))) (wVar 1)))) (wRet (wVar 0)) wNext) (wTwB 3 (cN "Reader") "_twin" (w_Reader__twin cN) [] (wVar 0) (cN "Reader") (wnSeq (wnPut "open_read" (wC .non)) (wnSeq (wnPut "floor" (wCall w_joined_floor [] (waCons (wFld (cN "Reader") "floor" (wVar 0)) (waCons (wVar 2) waNil)))) wnNext))))))
abbrev N_Reader_heard_done : List Str := ["self", "number", "instant", "after"]
theorem sc_Reader_heard_done : FnScope N_Reader_heard_done ["self", "number", "instant"] (defScope s_Reader_heard_done) := ⟨rfl, rfl, rfl, by decide +kernel, rfl, by decide +kernel, by decide +kernel⟩
def w_Reader_heard_done (cN : Str → Addr) : WF := wDef 3 1 (wSeq (wDrop (wCall w_need_number [.int 999999999999999999999999999999999999999999999999999999999999] (waCons (wVar 1) (waCons (wC (.int 1)) waNil)))) (wSeq (wDrop (wCall w_need_instant [] (waCons (wVar 2) waNil))) (wSeq (wIf (wOr (wB (wIsN false (wFld (cN "Reader") "open_write" (wVar 0)))) (wB (wOp neT (wOp ixT (wFld (cN "Reader") "open_write" (wVar 0)) (wC (.int 0))) (wVar 1)))) (wRet (wVar 0)) wNext) (wTwB 3 (cN "Reader") "_twin" (w_Reader__twin cN) [] (wVar 0) (cN "Reader") (wnSeq (wnPut "open_write" (wC .non)) (wnSeq (wnPut "floor" (wCall w_joined_floor [] (waCons (wFld (cN "Reader") "floor" (wVar 0)) (waCons (wVar 2) waNil)))) wnNext))))))
abbrev N_Reader_dropped : List Str := ["self", "after"]
theorem sc_Reader_dropped : FnScope N_Reader_dropped ["self"] (defScope s_Reader_dropped) := ⟨rfl, rfl, rfl, by decide +kernel, rfl, by decide +kernel, by decide +kernel⟩
def w_Reader_dropped (cN : Str → Addr) : WF := wDef 1 1 (wSeq (wIf (wB (wIsN false (wFld (cN "Reader") "open_read" (wVar 0)))) wNever wNext) (wTwB 1 (cN "Reader") "_twin" (w_Reader__twin cN) [] (wVar 0) (cN "Reader") (wnSeq (wnPut "open_read" (wC .non)) wnNext)))
theorem ok_Reader_dropped {f : Addr} {fd : FuncData} (F : FunD K "dropped" "Reader.dropped" (defArgs s_Reader_dropped) (defBody s_Reader_dropped) (defScope s_Reader_dropped) [] [] f fd) (cl_Reader : Cls K (He.ga K "Reader")) (MF_Reader__twin : MethF P w K mg base 6 (He.ga K "Reader") "_twin" (He.ga K "Reader") (w_Reader__twin (He.ga K)) []) (nA_Reader_open_read : NoAttr K (He.ga K "Reader") "open_read") : FnOk P w K mg base CX0 7 f fd ["self"] (spT K (w_Reader_dropped (He.ga K))) :=
  by
  refine fn_tree F sc_Reader_dropped rfl rfl fun cdv A outer s H E hr => ?_
  exact (gss_cons (gs_if (gt_isN (ge_fld cl_Reader nA_Reader_open_read (ge_var 0))) (gss_one gs_never) gss_nil) (gss_twB 1 MF_Reader__twin cl_Reader hr .nil (ge_var 0) (gb_cons (gn_put cl_Reader nA_Reader_open_read ge_non) gb_ret) sc_Reader_dropped.nd))

abbrev N_Reader_fallen : List Str := ["self", "after"]
theorem sc_Reader_fallen : FnScope N_Reader_fallen ["self"] (defScope s_Reader_fallen) := ⟨rfl, rfl, rfl, by decide +kernel, rfl, by decide +kernel, by decide +kernel⟩
def w_Reader_fallen (cN : Str → Addr) : WF := wDef 1 1 (wTwB 1 (cN "Reader") "_twin" (w_Reader__twin cN) [] (wVar 0) (cN "Reader") (wnSeq (wnPut "open_read" (wC .non)) (wnSeq (wnPut "floor" (wTup (waCons (wOp ixT (wFld (cN "Reader") "floor" (wVar 0)) (wC (.int 0))) (waCons (wC (.int 0)) waNil)))) wnNext)))
theorem ok_Reader_fallen {f : Addr} {fd : FuncData} (F : FunD K "fallen" "Reader.fallen" (defArgs s_Reader_fallen) (defBody s_Reader_fallen) (defScope s_Reader_fallen) [] [] f fd) (cl_Reader : Cls K (He.ga K "Reader")) (MF_Reader__twin : MethF P w K mg base 6 (He.ga K "Reader") "_twin" (He.ga K "Reader") (w_Reader__twin (He.ga K)) []) (nA_Reader_floor : NoAttr K (He.ga K "Reader") "floor") (nA_Reader_open_read : NoAttr K (He.ga K "Reader") "open_read") : FnOk P w K mg base CX0 7 f fd ["self"] (spT K (w_Reader_fallen (He.ga K))) :=
  by
  refine fn_tree F sc_Reader_fallen rfl rfl fun cdv A outer s H E hr => ?_
  exact (gss_twB 1 MF_Reader__twin cl_Reader hr .nil (ge_var 0) (gb_cons (gn_put cl_Reader nA_Reader_open_read ge_non) (gb_cons (gn_put cl_Reader nA_Reader_floor (ge_tup (ga_cons (ge_ix (ge_fld cl_Reader nA_Reader_floor (ge_var 0)) ge_int) (ga_cons ge_int ga_nil)))) gb_ret)) sc_Reader_fallen.nd)

abbrev N__law_dice : List Str := ["script", "spot", "cell", "left"]
theorem sc__law_dice : FnScope N__law_dice ["script", "spot"] (defScope s__law_dice) := ⟨rfl, rfl, rfl, by decide +kernel, rfl, by decide +kernel, by decide +kernel⟩
def w__law_dice : List Sl → (List T → Prop) → Prop := (wrSeq (wAsg (wIfE (wB (wOp ltT (wVar 1) (wCB lenT (waCons (wVar 0) waNil)))) (wCB intT (waCons (wOp ixT (wVar 0) (wVar 1)) waNil)) (wOp addT (wOp mulT (wC (.int 83)) (wVar 1)) (wC (.int 57)))) 2) (wrSeq (wAsg (wOp modT (wCB max2T (waCons (wC (.int 0)) (waCons (wOp subT (wCB absT (waCons (wVar 2) waNil)) (wOp powT (wC (.int 10)) (wC (.int 16)))) waNil))) (wOp mulT (wOp powT (wC (.int 10)) (wC (.int 58))) (wOp powT (wC (.int 10)) (wC (.int 60))))) 3) (wLst (waCons (wVar 3) (waCons (wOp addT (wOp addT (wOp addT (wOp mulT (wOp modT (wCB absT (waCons (wVar 2) waNil)) (wC (.int 1152921504606846883))) (wC (.int 97))) (wOp mulT (wC (.int 1009)) (wVar 1))) (wOp mulT (wC (.int 53)) (wCB intT (waCons (wOp ltT (wVar 2) (wC (.int 0))) waNil)))) (wC (.int 29))) (waCons (wC (.int 0)) waNil))))))
theorem ok__law_dice {f : Addr} {fd : FuncData} (F : FunD K "_law_dice" "_law_dice" (defArgs s__law_dice) (defBody s__law_dice) (defScope s__law_dice) [] [] f fd) (b_abs : mg "abs" = none) (b_int : mg "int" = none) (b_max : mg "max" = none) (b_len : mg "len" = none) (hp : ∀ xs, preDice xs → xs.length = 2 ∧ w__law_dice (xs ++ List.replicate 2 .any) fun ts => ∃ a b c : Int, ts = [.int a, .int b, .int c]) : FnOk P w K mg base CX0 1 f fd ["script", "spot"] (spD K preDice) :=
  by
  refine fn_dice F sc__law_dice rfl rfl (fun cdv A outer s H E hr => ?_) hp
  exact (gr_cons (gs_asg 2 (ge_if (gt_cmp op_ltA sop_lt (ge_var 1) (ge_cb call_len sc_len (by rfl) b_len (by decide +kernel) (ga_cons (ge_var 0) ga_nil))) (ge_cty call_int1 sc_int (by rfl) b_int (by decide +kernel) (ga_cons (ge_ix (ge_var 0) (ge_var 1)) ga_nil)) (ge_op op_addA sop_add (ge_op op_mulA sop_mul ge_int (ge_var 1)) ge_int)) sc__law_dice.nd) (gr_cons (gs_asg 3 (ge_op op_mod sop_mod (ge_cb (call_max2 (by rfl)) sc_max2 (by rfl) b_max (by decide +kernel) (ga_cons ge_int (ga_cons (ge_op op_sub sop_sub (ge_cb call_abs sc_abs (by rfl) b_abs (by decide +kernel) (ga_cons (ge_var 2) ga_nil)) (ge_op op_powW sop_pow ge_int ge_int)) ga_nil))) (ge_op op_mulA sop_mul (ge_op op_powW sop_pow ge_int ge_int) (ge_op op_powW sop_pow ge_int ge_int))) sc__law_dice.nd) (gr_ret (gl_lst (ga_cons (ge_var 3) (ga_cons (ge_op op_addA sop_add (ge_op op_addA sop_add (ge_op op_addA sop_add (ge_op op_mulA sop_mul (ge_op op_mod sop_mod (ge_cb call_abs sc_abs (by rfl) b_abs (by decide +kernel) (ga_cons (ge_var 2) ga_nil)) ge_int) ge_int) (ge_op op_mulA sop_mul ge_int (ge_var 1))) (ge_op op_mulA sop_mul ge_int (ge_cty call_int1 sc_int (by rfl) b_int (by decide +kernel) (ga_cons (ge_cmp op_ltA sop_lt (ge_var 2) ge_int) ga_nil)))) ge_int) (ga_cons ge_int ga_nil)))))))
end
end My


set_option Elab.async false
set_option linter.all false
set_option maxRecDepth 100000
set_option maxHeartbeats 0
namespace My
open PySem PySem.Spec PyProof.Rows L2 Tr
section
variable [Tabl]
variable {P : Program} {w : World} {K : PySem.W.Frag} {mg : Str → Option Value} {base : Heap}
def wx_need_number (cN : Str → Addr) : WFX := wDefX 3 0 (xIf (wNot (wTru (wCall w_is_within [] (waCons (wVar 0) (waCons (wVar 1) (waCons (wVar 2) waNil)))))) (xRaiseF (cN "InvalidNumber") "given" (waCons (wVar 0) waNil)) xN)
theorem okx_need_number {f : Addr} {fd : FuncData} (F : FunD K "need_number" "need_number" (defArgs s_need_number) (defBody s_need_number) (defScope s_need_number) [.int 0, .int 999999999999999999999999999999999999999999999999999999999999] [] f fd) (D_is_within_3 : CallD P w K mg base 2 "is_within" w_is_within []) (XI_InvalidNumber : ExI P w K mg base "InvalidNumber" (He.ga K "InvalidNumber") "given") : FnOk P w K mg base (L2.CX P w) 3 f fd ["value", "low", "high"] (spX K (wx_need_number (He.ga K))) :=
  by
  refine fn_treeX F sc_need_number rfl rfl fun cdv A outer s H E hr tk => ?_
  exact (gxs_one (gx_if (gt_not (gt_tru (ge_callD D_is_within_3 hr (by rfl) CTs.nil (ga_cons (ge_var 0) (ga_cons (ge_var 1) (ga_cons (ge_var 2) ga_nil)))))) (gxs_one (gx_raiseF rfl tk XI_InvalidNumber hr (by rfl) (ga_cons (ge_var 0) ga_nil))) gxs_nil))

def wx_Reader___init__ (cN : Str → Addr) : WMX := wInitX 2 0 (xnSeq (xnDrop (xCall (wx_need_number cN) [] (waCons (wVar 1) (waCons (wC (.int 0)) (waCons (wC (.int 5)) waNil))))) (xnSeq (xnDrop (xCall (wx_need_number cN) [] (waCons (wVar 2) (waCons (wC (.int 1)) (waCons (wC (.int 6)) waNil))))) (xnL (wnSeq (wnSet "number" (wVar 1)) (wnSeq (wnSet "place" (wVar 2)) (wnSeq (wnSet "read_number" (wC (.int 0))) (wnSeq (wnSet "write_number" (wC (.int 0))) (wnSeq (wnSet "open_read" (wC .non)) (wnSeq (wnSet "open_write" (wC .non)) (wnSet "floor" (wTup (waCons (wC (.int 0)) (waCons (wC (.int 0)) waNil)))))))))))))
theorem okx_Reader___init__ {f : Addr} {fd : FuncData} {dvs : List V} {kws : List (Str × V)} (F : FunD K "__init__" "Reader.__init__" (defArgs s_Reader___init__) (defBody s_Reader___init__) (defScope s_Reader___init__) dvs kws f fd) (cl_Reader : Cls K (He.ga K "Reader")) (nA_Reader_number : NoAttr K (He.ga K "Reader") "number") (nA_Reader_place : NoAttr K (He.ga K "Reader") "place") (nA_Reader_read_number : NoAttr K (He.ga K "Reader") "read_number") (nA_Reader_write_number : NoAttr K (He.ga K "Reader") "write_number") (nA_Reader_open_read : NoAttr K (He.ga K "Reader") "open_read") (nA_Reader_open_write : NoAttr K (He.ga K "Reader") "open_write") (nA_Reader_floor : NoAttr K (He.ga K "Reader") "floor") (c__MOST_PLACE : ∃ t, mg "_MOST_PLACE" = some (.int 6 t)) (DX_need_number_3 : CallX P w K mg base 3 "need_number" (wx_need_number (He.ga K)) []) (c__MOST_READER : ∃ t, mg "_MOST_READER" = some (.int 5 t)) : FnOk P w K mg base (L2.CX P w) 4 f fd ["self", "number", "place"] (spNX K (He.ga K "Reader") (wx_Reader___init__ (He.ga K))) :=
  by
  refine fn_initX F sc_Reader___init__ rfl rfl fun cdv A outer s H E hr tk => ?_
  exact (gnxs_cons (gnx_expr (gxe_callX tk DX_need_number_3 hr (by rfl) CTs.nil (ga_cons (ge_var 1) (ga_cons ge_int (ga_cons (ge_globI (by rfl) c__MOST_READER) ga_nil))))) (gnxs_cons (gnx_expr (gxe_callX tk DX_need_number_3 hr (by rfl) CTs.nil (ga_cons (ge_var 2) (ga_cons ge_int (ga_cons (ge_globI (by rfl) c__MOST_PLACE) ga_nil))))) (gnxs_lift (gns_cons (gn_set cl_Reader nA_Reader_number (ge_var 1)) (gns_cons (gn_set cl_Reader nA_Reader_place (ge_var 2)) (gns_cons (gn_set cl_Reader nA_Reader_read_number ge_int) (gns_cons (gn_set cl_Reader nA_Reader_write_number ge_int) (gns_cons (gn_set cl_Reader nA_Reader_open_read ge_non) (gns_cons (gn_set cl_Reader nA_Reader_open_write ge_non) (gns_one (gn_set cl_Reader nA_Reader_floor (ge_tup (ga_cons ge_int (ga_cons ge_int ga_nil))))))))))))))

def wx_need_deed (cN : Str → Addr) : WFX := wDefX 1 0 (xIf (wNot (wTru (wCall w_is_deed [] (waCons (wVar 0) waNil)))) (xRaise (cN "InvalidDeed")) xN)
theorem okx_need_deed {f : Addr} {fd : FuncData} (F : FunD K "need_deed" "need_deed" (defArgs s_need_deed) (defBody s_need_deed) (defScope s_need_deed) [] [] f fd) (D_is_deed : CallD P w K mg base 6 "is_deed" w_is_deed []) (EX_InvalidDeed : ExD K (He.ga K "InvalidDeed")) (mg_InvalidDeed : mg "InvalidDeed" = some (.ref (He.ga K "InvalidDeed"))) : FnOk P w K mg base (L2.CX P w) 7 f fd ["deed"] (spX K (wx_need_deed (He.ga K))) :=
  by
  refine fn_treeX F sc_need_deed rfl rfl fun cdv A outer s H E hr tk => ?_
  exact (gxs_one (gx_if (gt_not (gt_tru (ge_callD D_is_deed hr (by rfl) CTs.nil (ga_cons (ge_var 0) ga_nil)))) (gxs_one (gx_raiseV rfl tk EX_InvalidDeed mg_InvalidDeed (by rfl))) gxs_nil))

def wx_Reader_with_write (cN : Str → Addr) : WFX := wDefX 2 1 (xSeq (xDrop (xCall (wx_need_deed cN) [] (waCons (wVar 1) waNil))) (xSeq (xIf (wB (wIsN true (wFld (cN "Reader") "open_write" (wVar 0)))) (xRaiseF (cN "Refused") "reason" (waCons (wTup (waCons (wC (.str "open")) waNil)) waNil)) xN) (xL (wTwB 2 (cN "Reader") "_twin" (w_Reader__twin cN) [] (wVar 0) (cN "Reader") (wnSeq (wnAug "write_number" (wC (.int 1))) (wnSeq (wnPutS 2 (cN "Reader") "open_write" (wTup (waCons (wFld (cN "Reader") "write_number" (wVar 2)) (waCons (wVar 1) waNil)))) wnNext))))))
theorem okx_Reader_with_write {f : Addr} {fd : FuncData} (F : FunD K "with_write" "Reader.with_write" (defArgs s_Reader_with_write) (defBody s_Reader_with_write) (defScope s_Reader_with_write) [] [] f fd) (cl_Reader : Cls K (He.ga K "Reader")) (MF_Reader__twin : MethF P w K mg base 6 (He.ga K "Reader") "_twin" (He.ga K "Reader") (w_Reader__twin (He.ga K)) []) (nA_Reader_open_write : NoAttr K (He.ga K "Reader") "open_write") (nA_Reader_write_number : NoAttr K (He.ga K "Reader") "write_number") (XI_Refused : ExI P w K mg base "Refused" (He.ga K "Refused") "reason") (DX_need_deed : CallX P w K mg base 7 "need_deed" (wx_need_deed (He.ga K)) []) : FnOk P w K mg base (L2.CX P w) 8 f fd ["self", "deed"] (spX K (wx_Reader_with_write (He.ga K))) :=
  by
  refine fn_treeX F sc_Reader_with_write rfl rfl fun cdv A outer s H E hr tk => ?_
  exact (gxs_cons (gx_expr (gxe_callX tk DX_need_deed hr (by rfl) CTs.nil (ga_cons (ge_var 1) ga_nil))) (gxs_cons (gx_if (gt_notN (ge_fld cl_Reader nA_Reader_open_write (ge_var 0))) (gxs_one (gx_raiseF rfl tk XI_Refused hr (by rfl) (ga_cons (ge_tup (ga_cons ge_str ga_nil)) ga_nil))) gxs_nil) (gxs_lift (gss_twB 2 MF_Reader__twin cl_Reader hr .nil (ge_var 0) (gb_cons (gn_aug cl_Reader nA_Reader_write_number ge_int) (gb_cons (gn_putS cl_Reader nA_Reader_open_write (ge_tup (ga_cons (ge_fld cl_Reader nA_Reader_write_number (ge_var 2)) (ga_cons (ge_var 1) ga_nil)))) gb_ret)) sc_Reader_with_write.nd))))

def wx_need_question (cN : Str → Addr) : WFX := wDefX 1 0 (xIf (wNot (wTru (wCall w_is_question [] (waCons (wVar 0) waNil)))) (xRaise (cN "InvalidQuestion")) xN)
theorem okx_need_question {f : Addr} {fd : FuncData} (F : FunD K "need_question" "need_question" (defArgs s_need_question) (defBody s_need_question) (defScope s_need_question) [] [] f fd) (D_is_question : CallD P w K mg base 44 "is_question" w_is_question []) (EX_InvalidQuestion : ExD K (He.ga K "InvalidQuestion")) (mg_InvalidQuestion : mg "InvalidQuestion" = some (.ref (He.ga K "InvalidQuestion"))) : FnOk P w K mg base (L2.CX P w) 45 f fd ["question"] (spX K (wx_need_question (He.ga K))) :=
  by
  refine fn_treeX F sc_need_question rfl rfl fun cdv A outer s H E hr tk => ?_
  exact (gxs_one (gx_if (gt_not (gt_tru (ge_callD D_is_question hr (by rfl) CTs.nil (ga_cons (ge_var 0) ga_nil)))) (gxs_one (gx_raiseV rfl tk EX_InvalidQuestion mg_InvalidQuestion (by rfl))) gxs_nil))

def wx_Reader_with_read (cN : Str → Addr) : WFX := wDefX 3 1 (xSeq (xDrop (xCall (wx_need_question cN) [] (waCons (wVar 1) waNil))) (xSeq (xDrop (xCall (wx_need_number cN) [] (waCons (wVar 2) (waCons (wC (.int 0)) (waCons (wC (.int 1000000)) waNil))))) (xSeq (xIf (wB (wIsN true (wFld (cN "Reader") "open_read" (wVar 0)))) (xRaiseF (cN "Refused") "reason" (waCons (wTup (waCons (wC (.str "open")) waNil)) waNil)) xN) (xL (wTwB 3 (cN "Reader") "_twin" (w_Reader__twin cN) [] (wVar 0) (cN "Reader") (wnSeq (wnAug "read_number" (wC (.int 1))) (wnSeq (wnPutS 3 (cN "Reader") "open_read" (wTup (waCons (wFld (cN "Reader") "read_number" (wVar 3)) (waCons (wVar 1) (waCons (wVar 2) waNil))))) wnNext)))))))
theorem okx_Reader_with_read {f : Addr} {fd : FuncData} (F : FunD K "with_read" "Reader.with_read" (defArgs s_Reader_with_read) (defBody s_Reader_with_read) (defScope s_Reader_with_read) [] [] f fd) (cl_Reader : Cls K (He.ga K "Reader")) (MF_Reader__twin : MethF P w K mg base 6 (He.ga K "Reader") "_twin" (He.ga K "Reader") (w_Reader__twin (He.ga K)) []) (nA_Reader_open_read : NoAttr K (He.ga K "Reader") "open_read") (nA_Reader_read_number : NoAttr K (He.ga K "Reader") "read_number") (XI_Refused : ExI P w K mg base "Refused" (He.ga K "Refused") "reason") (c_MOST_AGE : ∃ t, mg "MOST_AGE" = some (.int 1000000 t)) (DX_need_number_3 : CallX P w K mg base 3 "need_number" (wx_need_number (He.ga K)) []) (DX_need_question : CallX P w K mg base 45 "need_question" (wx_need_question (He.ga K)) []) : FnOk P w K mg base (L2.CX P w) 46 f fd ["self", "question", "age"] (spX K (wx_Reader_with_read (He.ga K))) :=
  by
  refine fn_treeX F sc_Reader_with_read rfl rfl fun cdv A outer s H E hr tk => ?_
  exact (gxs_cons (gx_expr (gxe_callX tk DX_need_question hr (by rfl) CTs.nil (ga_cons (ge_var 1) ga_nil))) (gxs_cons (gx_expr (gxe_callX tk DX_need_number_3 hr (by rfl) CTs.nil (ga_cons (ge_var 2) (ga_cons ge_int (ga_cons (ge_globI (by rfl) c_MOST_AGE) ga_nil))))) (gxs_cons (gx_if (gt_notN (ge_fld cl_Reader nA_Reader_open_read (ge_var 0))) (gxs_one (gx_raiseF rfl tk XI_Refused hr (by rfl) (ga_cons (ge_tup (ga_cons ge_str ga_nil)) ga_nil))) gxs_nil) (gxs_lift (gss_twB 3 MF_Reader__twin cl_Reader hr .nil (ge_var 0) (gb_cons (gn_aug cl_Reader nA_Reader_read_number ge_int) (gb_cons (gn_putS cl_Reader nA_Reader_open_read (ge_tup (ga_cons (ge_fld cl_Reader nA_Reader_read_number (ge_var 3)) (ga_cons (ge_var 1) (ga_cons (ge_var 2) ga_nil))))) gb_ret)) sc_Reader_with_read.nd)))))

def wx__need_readers (cN : Str → Addr) : WFX := wDefX 1 1 (xSeq (xIf (wOr (wNot (wTru (wIsX (cN "Reader") "tuple" (wVar 0)))) (wNot (wTru (wCB allT (waCons (wL (wLc (wiSeq (wVar 0)) (Tg.name 1) wYes (wIsI (cN "Reader") (wVar 1)) [1])) waNil))))) (xRaise (cN "InvalidOperation")) xN) (xIf (wNot (wTru (wCall w_are_ascending [] (waCons (wL (wLc (wiSeq (wVar 0)) (Tg.name 1) wYes (wFld (cN "Reader") "number" (wVar 1)) [1])) waNil)))) (xRaise (cN "InvalidOperation")) xN))
theorem okx__need_readers {f : Addr} {fd : FuncData} (F : FunD K "_need_readers" "_need_readers" (defArgs s__need_readers) (defBody s__need_readers) (defScope s__need_readers) [] [] f fd) (D_are_ascending : CallD P w K mg base 1 "are_ascending" w_are_ascending []) (cl_Reader : Cls K (He.ga K "Reader")) (nA_Reader_number : NoAttr K (He.ga K "Reader") "number") (EX_InvalidOperation : ExD K (He.ga K "InvalidOperation")) (mg_InvalidOperation : mg "InvalidOperation" = some (.ref (He.ga K "InvalidOperation"))) (b_all : mg "all" = none) (IS_Reader : InsD K (He.ga K "Reader")) (b_isinstance : mg "isinstance" = none) (mg_Reader : mg "Reader" = some (.ref (He.ga K "Reader"))) (IX_Reader_tuple : IsXD K (He.ga K "Reader") "tuple") (b_tuple : mg "tuple" = none) : FnOk P w K mg base (L2.CX P w) 2 f fd ["readers"] (spX K (wx__need_readers (He.ga K))) :=
  by
  refine fn_treeX F sc__need_readers rfl rfl fun cdv A outer s H E hr tk => ?_
  refine (gxs_cons ?_ ?_)
  · refine (gx_if ?_ (gxs_one (gx_raiseV rfl tk EX_InvalidOperation mg_InvalidOperation (by rfl))) gxs_nil)
    · refine (GW.gt ?_)
      · refine (gw_or (gt_not (gt_tru (ge_isX IX_Reader_tuple (by rfl) b_isinstance (by decide +kernel) (ge_var 0) (by rfl) b_tuple (by decide +kernel)))) ?_)
        · refine (gw_or1 ?_)
          · refine (gt_not ?_)
            · refine (gt_tru ?_)
              · refine (ge_cb (cr_all (by rfl)) sc_all (by rfl) b_all (by decide +kernel) ?_)
                · refine (ga_cons ?_ ga_nil)
                  · refine (GL.ge ?_)
                    · refine (gl_lc (own := [("reader", 1)]) (g := (Tg.name 1)) (tt := tYes) (by rfl) sc__need_readers.nd ?_ (by first | exact blkOk_by (own := [("reader", 1)]) (N := N__need_readers) (sc := defScope s__need_readers) (by decide +kernel) | exact blkOk_by (own := [("reader", 1)]) (N := N__need_readers) (by kernel_rfl)) (fun _ _ _ _ _ => ?_) (fun _ _ _ _ _ => ?_) st_yes (fun _ _ _ _ _ => ?_) (by decide) (by intro _; rfl))
                      · exact (gi_seq (ge_var 0))
                      · exact (pg_name (i := 1) sc__need_readers.nd (by rfl) (by first | exact Or.inl rfl | exact Or.inr rfl) (by first | exact .inl rfl | exact .inr rfl))
                      · exact pts_nil
                      · exact (ge_isI IS_Reader (by rfl) b_isinstance (by decide +kernel) (ge_var 1) (by rfl) mg_Reader)
  · refine (gxs_one ?_)
    · refine (gx_if ?_ (gxs_one (gx_raiseV rfl tk EX_InvalidOperation mg_InvalidOperation (by rfl))) gxs_nil)
      · refine (gt_not ?_)
        · refine (gt_tru ?_)
          · refine (ge_callD D_are_ascending hr (by rfl) CTs.nil ?_)
            · refine (ga_cons ?_ ga_nil)
              · refine (GL.ge ?_)
                · refine (gl_lc (own := [("reader", 1)]) (g := (Tg.name 1)) (tt := tYes) (by rfl) sc__need_readers.nd ?_ (by first | exact blkOk_by (own := [("reader", 1)]) (N := N__need_readers) (sc := defScope s__need_readers) (by decide +kernel) | exact blkOk_by (own := [("reader", 1)]) (N := N__need_readers) (by kernel_rfl)) (fun _ _ _ _ _ => ?_) (fun _ _ _ _ _ => ?_) st_yes (fun _ _ _ _ _ => ?_) (by decide) (by intro _; rfl))
                  · exact (gi_seq (ge_var 0))
                  · exact (pg_name (i := 1) sc__need_readers.nd (by rfl) (by first | exact Or.inl rfl | exact Or.inr rfl) (by first | exact .inl rfl | exact .inr rfl))
                  · exact pts_nil
                  · exact (ge_fld cl_Reader nA_Reader_number (ge_var 1))

def wx_open_reads (cN : Str → Addr) : WFX := wDefX 1 1 (xSeq (xDrop (xCall (wx__need_readers cN) [] (waCons (wVar 0) waNil))) (xL (wRet (wCB tupleT (waCons (wL (wLc (wiSeq (wVar 0)) (Tg.name 1) (wB (wIsN true (wFld (cN "Reader") "open_read" (wVar 1)))) (wFld (cN "Reader") "number" (wVar 1)) [1])) waNil)))))
theorem okx_open_reads {f : Addr} {fd : FuncData} (F : FunD K "open_reads" "open_reads" (defArgs s_open_reads) (defBody s_open_reads) (defScope s_open_reads) [] [] f fd) (b_tuple : mg "tuple" = none) (cl_Reader : Cls K (He.ga K "Reader")) (nA_Reader_open_read : NoAttr K (He.ga K "Reader") "open_read") (nA_Reader_number : NoAttr K (He.ga K "Reader") "number") (DX__need_readers : CallX P w K mg base 2 "_need_readers" (wx__need_readers (He.ga K)) []) : FnOk P w K mg base (L2.CX P w) 3 f fd ["readers"] (spX K (wx_open_reads (He.ga K))) :=
  by
  refine fn_treeX F sc_open_reads rfl rfl fun cdv A outer s H E hr tk => ?_
  refine (gxs_cons (gx_expr (gxe_callX tk DX__need_readers hr (by rfl) CTs.nil (ga_cons (ge_var 0) ga_nil))) ?_)
  · refine (gxs_lift ?_)
    · refine (gss_one ?_)
      · refine (gs_ret ?_)
        · refine (ge_cty call_tuple_of sc_tuple (by rfl) b_tuple (by decide +kernel) ?_)
          · refine (ga_cons ?_ ga_nil)
            · refine (GL.ge ?_)
              · refine (gl_lc (own := [("reader", 1)]) (g := (Tg.name 1)) (tt := _) (by rfl) sc_open_reads.nd ?_ (by first | exact blkOk_by (own := [("reader", 1)]) (N := N_open_reads) (sc := defScope s_open_reads) (by decide +kernel) | exact blkOk_by (own := [("reader", 1)]) (N := N_open_reads) (by kernel_rfl)) (fun _ _ _ _ _ => ?_) (fun _ _ _ _ _ => ?_) st_self (fun _ _ _ _ _ => ?_) (by decide) (by intro _; rfl))
                · exact (gi_seq (ge_var 0))
                · exact (pg_name (i := 1) sc_open_reads.nd (by rfl) (by first | exact Or.inl rfl | exact Or.inr rfl) (by first | exact .inl rfl | exact .inr rfl))
                · exact (pts_one (gt_notN (ge_fld cl_Reader nA_Reader_open_read (ge_var 1))))
                · exact (ge_fld cl_Reader nA_Reader_number (ge_var 1))

def wx_open_writes (cN : Str → Addr) : WFX := wDefX 1 1 (xSeq (xDrop (xCall (wx__need_readers cN) [] (waCons (wVar 0) waNil))) (xL (wRet (wCB tupleT (waCons (wL (wLc (wiSeq (wVar 0)) (Tg.name 1) (wB (wIsN true (wFld (cN "Reader") "open_write" (wVar 1)))) (wFld (cN "Reader") "number" (wVar 1)) [1])) waNil)))))
theorem okx_open_writes {f : Addr} {fd : FuncData} (F : FunD K "open_writes" "open_writes" (defArgs s_open_writes) (defBody s_open_writes) (defScope s_open_writes) [] [] f fd) (b_tuple : mg "tuple" = none) (cl_Reader : Cls K (He.ga K "Reader")) (nA_Reader_open_write : NoAttr K (He.ga K "Reader") "open_write") (nA_Reader_number : NoAttr K (He.ga K "Reader") "number") (DX__need_readers : CallX P w K mg base 2 "_need_readers" (wx__need_readers (He.ga K)) []) : FnOk P w K mg base (L2.CX P w) 3 f fd ["readers"] (spX K (wx_open_writes (He.ga K))) :=
  by
  refine fn_treeX F sc_open_writes rfl rfl fun cdv A outer s H E hr tk => ?_
  refine (gxs_cons (gx_expr (gxe_callX tk DX__need_readers hr (by rfl) CTs.nil (ga_cons (ge_var 0) ga_nil))) ?_)
  · refine (gxs_lift ?_)
    · refine (gss_one ?_)
      · refine (gs_ret ?_)
        · refine (ge_cty call_tuple_of sc_tuple (by rfl) b_tuple (by decide +kernel) ?_)
          · refine (ga_cons ?_ ga_nil)
            · refine (GL.ge ?_)
              · refine (gl_lc (own := [("reader", 1)]) (g := (Tg.name 1)) (tt := _) (by rfl) sc_open_writes.nd ?_ (by first | exact blkOk_by (own := [("reader", 1)]) (N := N_open_writes) (sc := defScope s_open_writes) (by decide +kernel) | exact blkOk_by (own := [("reader", 1)]) (N := N_open_writes) (by kernel_rfl)) (fun _ _ _ _ _ => ?_) (fun _ _ _ _ _ => ?_) st_self (fun _ _ _ _ _ => ?_) (by decide) (by intro _; rfl))
                · exact (gi_seq (ge_var 0))
                · exact (pg_name (i := 1) sc_open_writes.nd (by rfl) (by first | exact Or.inl rfl | exact Or.inr rfl) (by first | exact .inl rfl | exact .inr rfl))
                · exact (pts_one (gt_notN (ge_fld cl_Reader nA_Reader_open_write (ge_var 1))))
                · exact (ge_fld cl_Reader nA_Reader_number (ge_var 1))

def wx_need_instant (cN : Str → Addr) : WFX := wDefX 1 0 (xIf (wNot (wTru (wCall w_is_instant [] (waCons (wVar 0) waNil)))) (xRaise (cN "InvalidInstant")) xN)
theorem okx_need_instant {f : Addr} {fd : FuncData} (F : FunD K "need_instant" "need_instant" (defArgs s_need_instant) (defBody s_need_instant) (defScope s_need_instant) [] [] f fd) (D_is_instant : CallD P w K mg base 3 "is_instant" w_is_instant []) (EX_InvalidInstant : ExD K (He.ga K "InvalidInstant")) (mg_InvalidInstant : mg "InvalidInstant" = some (.ref (He.ga K "InvalidInstant"))) : FnOk P w K mg base (L2.CX P w) 4 f fd ["instant"] (spX K (wx_need_instant (He.ga K))) :=
  by
  refine fn_treeX F sc_need_instant rfl rfl fun cdv A outer s H E hr tk => ?_
  exact (gxs_one (gx_if (gt_not (gt_tru (ge_callD D_is_instant hr (by rfl) CTs.nil (ga_cons (ge_var 0) ga_nil)))) (gxs_one (gx_raiseV rfl tk EX_InvalidInstant mg_InvalidInstant (by rfl))) gxs_nil))

def wx_joined_floor (cN : Str → Addr) : WFX := wDefX 2 0 (xSeq (xDrop (xCall (wx_need_instant cN) [] (waCons (wVar 0) waNil))) (xSeq (xDrop (xCall (wx_need_instant cN) [] (waCons (wVar 1) waNil))) (xL (wRet (wTup (waCons (wCB max2T (waCons (wOp ixT (wVar 0) (wC (.int 0))) (waCons (wOp ixT (wVar 1) (wC (.int 0))) waNil))) (waCons (wCB max2T (waCons (wOp ixT (wVar 0) (wC (.int 1))) (waCons (wOp ixT (wVar 1) (wC (.int 1))) waNil))) waNil)))))))
def wx_Reader_answered (cN : Str → Addr) : WFX := wDefX 3 1 (xSeq (xDrop (xCall (wx_need_number cN) [.int 999999999999999999999999999999999999999999999999999999999999] (waCons (wVar 1) (waCons (wC (.int 1)) waNil)))) (xSeq (xDrop (xCall (wx_need_instant cN) [] (waCons (wVar 2) waNil))) (xL (wSeq (wIf (wOr (wB (wIsN false (wFld (cN "Reader") "open_read" (wVar 0)))) (wB (wOp neT (wOp ixT (wFld (cN "Reader") "open_read" (wVar 0)) (wC (.int 0))) (wVar 1)))) (wRet (wVar 0)) wNext) (wTwB 3 (cN "Reader") "_twin" (w_Reader__twin cN) [] (wVar 0) (cN "Reader") (wnSeq (wnPut "open_read" (wC .non)) (wnSeq (wnPut "floor" (wCall w_joined_floor [] (waCons (wFld (cN "Reader") "floor" (wVar 0)) (waCons (wVar 2) waNil)))) wnNext)))))))
theorem okx_Reader_answered {f : Addr} {fd : FuncData} (F : FunD K "answered" "Reader.answered" (defArgs s_Reader_answered) (defBody s_Reader_answered) (defScope s_Reader_answered) [] [] f fd) (cl_Reader : Cls K (He.ga K "Reader")) (MF_Reader__twin : MethF P w K mg base 6 (He.ga K "Reader") "_twin" (He.ga K "Reader") (w_Reader__twin (He.ga K)) []) (nA_Reader_floor : NoAttr K (He.ga K "Reader") "floor") (D_joined_floor : CallD P w K mg base 5 "joined_floor" w_joined_floor []) (nA_Reader_open_read : NoAttr K (He.ga K "Reader") "open_read") (DX_need_instant : CallX P w K mg base 4 "need_instant" (wx_need_instant (He.ga K)) []) (DX_need_number_2 : CallX P w K mg base 3 "need_number" (wx_need_number (He.ga K)) [.int 999999999999999999999999999999999999999999999999999999999999]) : FnOk P w K mg base (L2.CX P w) 7 f fd ["self", "number", "low"] (spX K (wx_Reader_answered (He.ga K))) :=
  by
  refine fn_treeX F sc_Reader_answered rfl rfl fun cdv A outer s H E hr tk => ?_
  exact (gxs_cons (gx_expr (gxe_callX tk DX_need_number_2 hr (by rfl) (CTs.cons (CT.int _) CTs.nil) (ga_cons (ge_var 1) (ga_cons ge_int ga_nil)))) (gxs_cons (gx_expr (gxe_callX tk DX_need_instant hr (by rfl) CTs.nil (ga_cons (ge_var 2) ga_nil))) (gxs_lift (gss_cons (gs_if (GW.gt (gw_or (gt_isN (ge_fld cl_Reader nA_Reader_open_read (ge_var 0))) (gw_or1 (gt_cmp (op_neD hr.units) sop_ne (ge_ix (ge_fld cl_Reader nA_Reader_open_read (ge_var 0)) ge_int) (ge_var 1))))) (gss_one (gs_ret (ge_var 0))) gss_nil) (gss_twB 3 MF_Reader__twin cl_Reader hr .nil (ge_var 0) (gb_cons (gn_put cl_Reader nA_Reader_open_read ge_non) (gb_cons (gn_put cl_Reader nA_Reader_floor (ge_callD D_joined_floor hr (by rfl) CTs.nil (ga_cons (ge_fld cl_Reader nA_Reader_floor (ge_var 0)) (ga_cons (ge_var 2) ga_nil)))) gb_ret)) sc_Reader_answered.nd)))))

def wx_Reader_heard_done (cN : Str → Addr) : WFX := wDefX 3 1 (xSeq (xDrop (xCall (wx_need_number cN) [.int 999999999999999999999999999999999999999999999999999999999999] (waCons (wVar 1) (waCons (wC (.int 1)) waNil)))) (xSeq (xDrop (xCall (wx_need_instant cN) [] (waCons (wVar 2) waNil))) (xL (wSeq (wIf (wOr (wB (wIsN false (wFld (cN "Reader") "open_write" (wVar 0)))) (wB (wOp neT (wOp ixT (wFld (cN "Reader") "open_write" (wVar 0)) (wC (.int 0))) (wVar 1)))) (wRet (wVar 0)) wNext) (wTwB 3 (cN "Reader") "_twin" (w_Reader__twin cN) [] (wVar 0) (cN "Reader") (wnSeq (wnPut "open_write" (wC .non)) (wnSeq (wnPut "floor" (wCall w_joined_floor [] (waCons (wFld (cN "Reader") "floor" (wVar 0)) (waCons (wVar 2) waNil)))) wnNext)))))))
theorem okx_Reader_heard_done {f : Addr} {fd : FuncData} (F : FunD K "heard_done" "Reader.heard_done" (defArgs s_Reader_heard_done) (defBody s_Reader_heard_done) (defScope s_Reader_heard_done) [] [] f fd) (cl_Reader : Cls K (He.ga K "Reader")) (MF_Reader__twin : MethF P w K mg base 6 (He.ga K "Reader") "_twin" (He.ga K "Reader") (w_Reader__twin (He.ga K)) []) (nA_Reader_floor : NoAttr K (He.ga K "Reader") "floor") (D_joined_floor : CallD P w K mg base 5 "joined_floor" w_joined_floor []) (nA_Reader_open_write : NoAttr K (He.ga K "Reader") "open_write") (DX_need_instant : CallX P w K mg base 4 "need_instant" (wx_need_instant (He.ga K)) []) (DX_need_number_2 : CallX P w K mg base 3 "need_number" (wx_need_number (He.ga K)) [.int 999999999999999999999999999999999999999999999999999999999999]) : FnOk P w K mg base (L2.CX P w) 7 f fd ["self", "number", "instant"] (spX K (wx_Reader_heard_done (He.ga K))) :=
  by
  refine fn_treeX F sc_Reader_heard_done rfl rfl fun cdv A outer s H E hr tk => ?_
  exact (gxs_cons (gx_expr (gxe_callX tk DX_need_number_2 hr (by rfl) (CTs.cons (CT.int _) CTs.nil) (ga_cons (ge_var 1) (ga_cons ge_int ga_nil)))) (gxs_cons (gx_expr (gxe_callX tk DX_need_instant hr (by rfl) CTs.nil (ga_cons (ge_var 2) ga_nil))) (gxs_lift (gss_cons (gs_if (GW.gt (gw_or (gt_isN (ge_fld cl_Reader nA_Reader_open_write (ge_var 0))) (gw_or1 (gt_cmp (op_neD hr.units) sop_ne (ge_ix (ge_fld cl_Reader nA_Reader_open_write (ge_var 0)) ge_int) (ge_var 1))))) (gss_one (gs_ret (ge_var 0))) gss_nil) (gss_twB 3 MF_Reader__twin cl_Reader hr .nil (ge_var 0) (gb_cons (gn_put cl_Reader nA_Reader_open_write ge_non) (gb_cons (gn_put cl_Reader nA_Reader_floor (ge_callD D_joined_floor hr (by rfl) CTs.nil (ga_cons (ge_fld cl_Reader nA_Reader_floor (ge_var 0)) (ga_cons (ge_var 2) ga_nil)))) gb_ret)) sc_Reader_heard_done.nd)))))

def wx_Reader_dropped (cN : Str → Addr) : WFX := wDefX 1 1 (xSeq (xIf (wB (wIsN false (wFld (cN "Reader") "open_read" (wVar 0)))) (xRaiseF (cN "Refused") "reason" (waCons (wTup (waCons (wC (.str "none")) waNil)) waNil)) xN) (xL (wTwB 1 (cN "Reader") "_twin" (w_Reader__twin cN) [] (wVar 0) (cN "Reader") (wnSeq (wnPut "open_read" (wC .non)) wnNext))))
theorem okx_Reader_dropped {f : Addr} {fd : FuncData} (F : FunD K "dropped" "Reader.dropped" (defArgs s_Reader_dropped) (defBody s_Reader_dropped) (defScope s_Reader_dropped) [] [] f fd) (cl_Reader : Cls K (He.ga K "Reader")) (MF_Reader__twin : MethF P w K mg base 6 (He.ga K "Reader") "_twin" (He.ga K "Reader") (w_Reader__twin (He.ga K)) []) (nA_Reader_open_read : NoAttr K (He.ga K "Reader") "open_read") (XI_Refused : ExI P w K mg base "Refused" (He.ga K "Refused") "reason") : FnOk P w K mg base (L2.CX P w) 7 f fd ["self"] (spX K (wx_Reader_dropped (He.ga K))) :=
  by
  refine fn_treeX F sc_Reader_dropped rfl rfl fun cdv A outer s H E hr tk => ?_
  exact (gxs_cons (gx_if (gt_isN (ge_fld cl_Reader nA_Reader_open_read (ge_var 0))) (gxs_one (gx_raiseF rfl tk XI_Refused hr (by rfl) (ga_cons (ge_tup (ga_cons ge_str ga_nil)) ga_nil))) gxs_nil) (gxs_lift (gss_twB 1 MF_Reader__twin cl_Reader hr .nil (ge_var 0) (gb_cons (gn_put cl_Reader nA_Reader_open_read ge_non) gb_ret) sc_Reader_dropped.nd)))
end
end My
namespace My
open PySem PySem.Spec PyProof.Rows L2 Tr
section
variable [Tabl]
variable {P : Program} {w : World} {K : PySem.W.Frag} {mg : Str → Option Value} {base : Heap}
theorem sc_InvalidNumber___init__ : FnScope ["self", "given"] ["self", "given"] (defScope s_InvalidNumber___init__) := ⟨rfl, rfl, rfl, by decide +kernel, rfl, by decide +kernel, by decide +kernel⟩
theorem ok_InvalidNumber___init__ {f : Addr} {fd : FuncData} (F : FunD K "__init__" "InvalidNumber.__init__" (defArgs s_InvalidNumber___init__) (defBody s_InvalidNumber___init__) (defScope s_InvalidNumber___init__) [] [] f fd) (b_IndexError : mg "IndexError" = none) (T : OexG K (He.ga K "InvalidNumber") bmIndexError "IndexError.__new__") (tk : PySem.W.takerIn K (He.ga K "InvalidNumber") "given" = some none) (vV : PySem.W.findCls K (.type "IndexError") (.type "type") "__init__" = some (.val (.builtin "IndexError.__init__"))) : FnOk P w K mg base CX0 1 f fd ["self", "given"] (spE (He.ga K "InvalidNumber") "given") :=
  fn_exc F T tk sc_InvalidNumber___init__ fun cdv A outer s H E => pss_cons (ps_expr (pe_binit exbIndexError (by rfl) b_IndexError (by rfl) vV (pa_cons (pe_var (i := 0) rfl (.inl rfl)) (pa_cons pe_str pa_nil)))) (pss_one (ps_os1 exbIndexError (pe_var (i := 0) rfl (.inl rfl)) (pe_var (i := 1) rfl (.inl rfl))))

theorem sc_Refused___init__ : FnScope ["self", "reason"] ["self", "reason"] (defScope s_Refused___init__) := ⟨rfl, rfl, rfl, by decide +kernel, rfl, by decide +kernel, by decide +kernel⟩
theorem ok_Refused___init__ {f : Addr} {fd : FuncData} (F : FunD K "__init__" "Refused.__init__" (defArgs s_Refused___init__) (defBody s_Refused___init__) (defScope s_Refused___init__) [] [] f fd) (b_ArithmeticError : mg "ArithmeticError" = none) (T : OexG K (He.ga K "Refused") bmArithmeticError "ArithmeticError.__new__") (tk : PySem.W.takerIn K (He.ga K "Refused") "reason" = some none) (vV : PySem.W.findCls K (.type "ArithmeticError") (.type "type") "__init__" = some (.val (.builtin "ArithmeticError.__init__"))) : FnOk P w K mg base CX0 1 f fd ["self", "reason"] (spE (He.ga K "Refused") "reason") :=
  fn_exc F T tk sc_Refused___init__ fun cdv A outer s H E => pss_cons (ps_expr (pe_binit exbArithmeticError (by rfl) b_ArithmeticError (by rfl) vV (pa_cons (pe_var (i := 0) rfl (.inl rfl)) (pa_cons pe_str pa_nil)))) (pss_one (ps_os1 exbArithmeticError (pe_var (i := 0) rfl (.inl rfl)) (pe_var (i := 1) rfl (.inl rfl))))
end
end My


set_option Elab.async false
set_option linter.all false
set_option maxRecDepth 100000
set_option maxHeartbeats 0
namespace My
open PySem PySem.Spec PyProof.Rows L2 Tr LamX
section
variable [Tabl]
variable {P : Program} {w : World} {K : PySem.W.Frag} {mg : Str → Option Value} {base : Heap}
abbrev N__law_met : List Str := ["call", "error"]
theorem sc__law_met : FnScope N__law_met ["call"] (defScope s__law_met) := ⟨rfl, rfl, rfl, by decide +kernel, rfl, by decide +kernel, by decide +kernel⟩
def Met_law_met (K : PySem.W.Frag) (mg : Str → Option Value) : Prop := ∃ (g : Addr) (fd : FuncData), FunD K "_law_met" "_law_met" (defArgs s__law_met) (defBody s__law_met) (defScope s__law_met) [] [] g fd ∧ mg "_law_met" = some (.ref g) ∧ PySem.W.keepIn K (.ref g) = true ∧ L2.Binds K fd ["call"] []

def hd__law_met (cN : Str → Addr) : List HdW := [(.ref (cN "InvalidDeed"), none, fun _ _ _ => (wTup (waCons (wC (.str "refused")) (waCons (wC (.str "deed")) waNil)))), (.ref (cN "InvalidInstant"), none, fun _ _ _ => (wTup (waCons (wC (.str "refused")) (waCons (wC (.str "instant")) waNil)))), (.ref (cN "InvalidOperation"), none, fun _ _ _ => (wTup (waCons (wC (.str "refused")) (waCons (wC (.str "operation")) waNil)))), (.ref (cN "InvalidQuestion"), none, fun _ _ _ => (wTup (waCons (wC (.str "refused")) (waCons (wC (.str "question")) waNil)))), (.ref (cN "InvalidNumber"), some (1, "given"), fun a cls d => (wTup (waCons (wC (.str "refused")) (waCons (wC (.str "number")) (waCons (wCB reprZ (waCons (wXf a cls d (cN "InvalidNumber") 1 "given") waNil)) waNil))))), (.ref (cN "Refused"), some (1, "reason"), fun a cls d => (wTup (waCons (wC (.str "refused")) (waCons (wC (.str "reason")) (waCons (wXf a cls d (cN "Refused") 1 "reason") waNil)))))]

abbrev N__law_right : List Str := ["dice", "told", "wrong", "open_word", "none_word", "due", "age", "deed", "free", "least", "none", "number", "open_one", "place", "question", "rows"]
theorem sc__law_right : FnScope N__law_right ["dice"] (defScope s__law_right) := ⟨rfl, rfl, rfl, by decide +kernel, rfl, by decide +kernel, by decide +kernel⟩
def w__law_right (cN : Str → Addr) (em : Value → Value → Option Bool) : WF := wDef 1 15 (wSeq (wAsg (wCall w__law_pick [] (waCons (wVar 0) (waCons (wL (wLst (waCons (wC .non) (waCons (wUn negT (wC (.int 1))) (waCons (wC (.int 6)) (waCons (wC (.bl true)) (waCons (wC (.str "0")) (waCons (wTup (waCons (wC (.int 0)) waNil)) (waCons (wOp powT (wC (.int 10)) (wC (.int 60))) waNil))))))))) waNil))) 11) (wSeq (wAsg (wCall w__law_pick [] (waCons (wVar 0) (waCons (wL (wLst (waCons (wC .non) (waCons (wC (.int 0)) (waCons (wC (.int 7)) (waCons (wC (.bl true)) (waCons (wC (.str "1")) (waCons (wTup (waCons (wC (.int 1)) waNil)) (waCons (wOp powT (wC (.int 10)) (wC (.int 60))) waNil))))))))) waNil))) 13) (wSeq (wAsg (wCall w__law_pick [] (waCons (wVar 0) (waCons (wL (wLst (waCons (wC .non) (waCons (wC (.str "a")) (waCons (wTup (waCons (wC (.str "key")) (waCons (wC (.str "A")) waNil))) (waCons (wTup (waCons (wC (.str "keys")) (waCons (wC (.str "a")) waNil))) (waCons (wL (wLst (waCons (wC (.str "key")) (waCons (wC (.str "a")) waNil)))) (waCons (wTup waNil) (waCons wDct0 (waCons (wC (.int 3)) (waCons (wTup (waCons (wC (.str "plus")) (waCons (wTup (waCons (wC (.str "key")) (waCons (wC (.str "a")) waNil))) waNil))) waNil))))))))))) waNil))) 14) (wSeq (wAsg (wCall w__law_pick [] (waCons (wVar 0) (waCons (wL (wLst (waCons (wC .non) (waCons (wUn negT (wC (.int 1))) (waCons (wOp addT (wOp powT (wC (.int 10)) (wC (.int 6))) (wC (.int 1))) (waCons (wC (.bl true)) (waCons (wC (.str "1")) (waCons (wTup (waCons (wC (.int 1)) waNil)) (waCons (wOp powT (wC (.int 10)) (wC (.int 60))) waNil))))))))) waNil))) 6) (wSeq (wAsg (wCall w__law_pick [] (waCons (wVar 0) (waCons (wL (wLst (waCons (wC .non) (waCons (wTup waNil) (waCons (wTup (waCons (wC (.str "a")) (waCons (wC (.int 3)) waNil))) (waCons (wTup (waCons (wTup (waCons (wC (.str "A")) (waCons (wC (.int 3)) waNil))) waNil)) (waCons (wL (wLst (waCons (wTup (waCons (wC (.str "a")) (waCons (wC (.int 3)) waNil))) waNil))) (waCons (wTup (waCons (wTup (waCons (wC (.str "b")) (waCons (wC (.int 1)) waNil))) (waCons (wTup (waCons (wC (.str "a")) (waCons (wC (.int 1)) waNil))) waNil))) (waCons wDct0 (waCons (wC (.int 3)) (waCons (wTup (waCons (wTup (waCons (wC (.str "a")) (waCons (wC (.str "x")) waNil))) waNil)) (waCons (wTup (waCons (wTup (waCons (wC (.str "a")) (waCons (wOp powT (wC (.int 10)) (wC (.int 12))) waNil))) waNil)) waNil)))))))))))) waNil))) 7) (wSeq (wAsg (wCall w__law_pick [] (waCons (wVar 0) (waCons (wL (wLst (waCons (wC .non) (waCons (wC (.int 0)) (waCons (wUn negT (wC (.int 1))) (waCons (wC (.bl true)) (waCons (wC (.str "1")) (waCons (wTup (waCons (wC (.int 1)) waNil)) (waCons (wOp powT (wC (.int 10)) (wC (.int 60))) waNil))))))))) waNil))) 9) (wSeq (wAsg (wCall w__law_pick [] (waCons (wVar 0) (waCons (wL (wLst (waCons (wC .non) (waCons (wC (.int 3)) (waCons (wTup (waCons (wC (.int 3)) waNil)) (waCons (wTup (waCons (wC (.int 3)) (waCons (wC (.int 1)) (waCons (wC (.int 1)) waNil)))) (waCons (wL (wLst (waCons (wC (.int 3)) (waCons (wC (.int 1)) waNil)))) (waCons (wTup (waCons (wC (.bl true)) (waCons (wC (.int 1)) waNil))) (waCons (wTup (waCons (wC (.int 3)) (waCons (wUn negT (wC (.int 1))) waNil))) (waCons (wTup (waCons (wC (.int 3)) (waCons (wC (.str "1")) waNil))) (waCons wDct0 waNil))))))))))) waNil))) 10) (wSeq (wAsg (wMakeP (cN "Reader") [] w_Reader___init__ (waCons (wC (.int 1)) (waCons (wC (.int 2)) waNil))) 8) (wSeq (wAsg (wMeth (cN "Reader") "with_write" (w_Reader_with_write cN) [] (wMeth (cN "Reader") "with_read" (w_Reader_with_read cN) [] (wVar 8) (waCons (wTup (waCons (wC (.str "key")) (waCons (wC (.str "a")) waNil))) (waCons (wC (.int 0)) waNil))) (waCons (wTup (waCons (wTup (waCons (wC (.str "a")) (waCons (wC (.int 1)) waNil))) waNil)) waNil)) 12) (wSeq (wAsg (wCall w__law_pick [] (waCons (wVar 0) (waCons (wL (wLst (waCons (wC .non) (waCons (wL (wLst (waCons (wVar 8) waNil))) (waCons (wVar 8) (waCons (wTup (waCons (wVar 8) (waCons (wC .non) waNil))) (waCons (wTup (waCons (wVar 8) (waCons (wVar 8) waNil))) (waCons (wTup (waCons (wMakeP (cN "Reader") [] w_Reader___init__ (waCons (wC (.int 2)) (waCons (wC (.int 1)) waNil))) (waCons (wVar 8) waNil))) (waCons (wC (.str "readers")) (waCons wDct0 (waCons (wTup (waCons (wC (.int 1)) waNil)) waNil))))))))))) waNil))) 15) (wSeq (wOwn (wLst (waCons (wMetA em 2 (hd__law_met cN) (wTup (waCons (wC (.str "fine")) waNil)) (xMake (cN "Reader") [] (wx_Reader___init__ cN) (waCons (wVar 11) (waCons (wVar 13) waNil)))) waNil)) 1) (wSeq (wApp 1 (wMetA em 2 (hd__law_met cN) (wTup (waCons (wC (.str "fine")) waNil)) (xMake (cN "Reader") [] (wx_Reader___init__ cN) (waCons (wC (.int 5)) (waCons (wVar 13) waNil))))) (wSeq (wApp 1 (wMetA em 2 (hd__law_met cN) (wTup (waCons (wC (.str "fine")) waNil)) (xMeth (cN "Reader") "with_read" (wx_Reader_with_read cN) [] (wVar 8) (waCons (wVar 14) (waCons (wVar 6) waNil))))) (wSeq (wApp 1 (wMetA em 2 (hd__law_met cN) (wTup (waCons (wC (.str "fine")) waNil)) (xMeth (cN "Reader") "with_read" (wx_Reader_with_read cN) [] (wVar 12) (waCons (wTup (waCons (wC (.str "key")) (waCons (wC (.str "a")) waNil))) (waCons (wVar 6) waNil))))) (wSeq (wApp 1 (wMetA em 2 (hd__law_met cN) (wTup (waCons (wC (.str "fine")) waNil)) (xMeth (cN "Reader") "with_read" (wx_Reader_with_read cN) [] (wVar 12) (waCons (wTup (waCons (wC (.str "key")) (waCons (wC (.str "a")) waNil))) (waCons (wOp powT (wC (.int 10)) (wC (.int 6))) waNil))))) (wSeq (wApp 1 (wMetA em 2 (hd__law_met cN) (wTup (waCons (wC (.str "fine")) waNil)) (xMeth (cN "Reader") "with_write" (wx_Reader_with_write cN) [] (wVar 12) (waCons (wVar 7) waNil)))) (wSeq (wApp 1 (wMetA em 2 (hd__law_met cN) (wTup (waCons (wC (.str "fine")) waNil)) (xMeth (cN "Reader") "with_write" (wx_Reader_with_write cN) [] (wVar 12) (waCons (wTup (waCons (wTup (waCons (wC (.str "a")) (waCons (wC (.int 1)) waNil))) waNil)) waNil)))) (wSeq (wApp 1 (wMetA em 2 (hd__law_met cN) (wTup (waCons (wC (.str "fine")) waNil)) (xMeth (cN "Reader") "answered" (wx_Reader_answered cN) [] (wVar 8) (waCons (wVar 9) (waCons (wVar 10) waNil))))) (wSeq (wApp 1 (wMetA em 2 (hd__law_met cN) (wTup (waCons (wC (.str "fine")) waNil)) (xMeth (cN "Reader") "answered" (wx_Reader_answered cN) [] (wVar 8) (waCons (wC (.int 1)) (waCons (wVar 10) waNil))))) (wSeq (wApp 1 (wMetA em 2 (hd__law_met cN) (wTup (waCons (wC (.str "fine")) waNil)) (xMeth (cN "Reader") "heard_done" (wx_Reader_heard_done cN) [] (wVar 12) (waCons (wVar 9) (waCons (wVar 10) waNil))))) (wSeq (wApp 1 (wMetA em 2 (hd__law_met cN) (wTup (waCons (wC (.str "fine")) waNil)) (xMeth (cN "Reader") "heard_done" (wx_Reader_heard_done cN) [] (wVar 12) (waCons (wC (.int 9)) (waCons (wVar 10) waNil))))) (wSeq (wApp 1 (wMetA em 2 (hd__law_met cN) (wTup (waCons (wC (.str "fine")) waNil)) (xMeth (cN "Reader") "dropped" (wx_Reader_dropped cN) [] (wVar 8) waNil))) (wSeq (wApp 1 (wMetA em 2 (hd__law_met cN) (wTup (waCons (wC (.str "fine")) waNil)) (xMeth (cN "Reader") "dropped" (wx_Reader_dropped cN) [] (wMeth (cN "Reader") "dropped" (w_Reader_dropped cN) [] (wVar 12) waNil) waNil))) (wSeq (wApp 1 (wMetA em 2 (hd__law_met cN) (wTup (waCons (wC (.str "fine")) waNil)) (xMeth (cN "Reader") "dropped" (wx_Reader_dropped cN) [] (wMeth (cN "Reader") "fallen" (w_Reader_fallen cN) [] (wVar 12) waNil) waNil))) (wSeq (wApp 1 (wMetA em 2 (hd__law_met cN) (wTup (waCons (wC (.str "fine")) waNil)) (xCall (wx_open_reads cN) [] (waCons (wVar 15) waNil)))) (wSeq (wApp 1 (wMetA em 2 (hd__law_met cN) (wTup (waCons (wC (.str "fine")) waNil)) (xCall (wx_open_writes cN) [] (waCons (wVar 15) waNil)))) (wFrz 1 (wSeq (wPar3 2 3 4 (waCons (wTup (waCons (wC (.str "refused")) (waCons (wC (.str "number")) (waCons (wCB reprZ (waCons (wVar 9) waNil)) waNil)))) (waCons (wTup (waCons (wC (.str "refused")) (waCons (wC (.str "reason")) (waCons (wTup (waCons (wC (.str "open")) waNil)) waNil)))) (waCons (wTup (waCons (wC (.str "refused")) (waCons (wC (.str "reason")) (waCons (wTup (waCons (wC (.str "none")) waNil)) waNil)))) waNil)))) (wSeq (wAsg (wL (wLst (waCons (wTup (waCons (wC (.str "refused")) (waCons (wC (.str "number")) (waCons (wCB reprZ (waCons (wVar 11) waNil)) waNil)))) (waCons (wTup (waCons (wC (.str "refused")) (waCons (wC (.str "number")) (waCons (wCB reprZ (waCons (wVar 13) waNil)) waNil)))) (waCons (wTup (waCons (wC (.str "refused")) (waCons (wC (.str "question")) waNil))) (waCons (wTup (waCons (wC (.str "refused")) (waCons (wC (.str "number")) (waCons (wCB reprZ (waCons (wVar 6) waNil)) waNil)))) waNil)))))) 5) (wSeq (wAsg (wOp addT (wVar 5) (wL (wLst (waCons (wVar 3) (waCons (wTup (waCons (wC (.str "refused")) (waCons (wC (.str "deed")) waNil))) (waCons (wVar 3) (waCons (wVar 2) (waCons (wTup (waCons (wC (.str "refused")) (waCons (wC (.str "instant")) waNil))) (waCons (wVar 2) (waCons (wTup (waCons (wC (.str "refused")) (waCons (wC (.str "instant")) waNil))) (waCons (wVar 4) (waCons (wVar 4) waNil)))))))))))) 5) (wRet (wOp eqT (wVar 1) (wOp addT (wVar 5) (wL (wLst (waCons (wVar 4) (waCons (wTup (waCons (wC (.str "refused")) (waCons (wC (.str "operation")) waNil))) (waCons (wTup (waCons (wC (.str "refused")) (waCons (wC (.str "operation")) waNil))) waNil))))))))))))))))))))))))))))))))))))))
theorem ok__law_right {fd : FuncData} (F : FunD K "_law_right" "_law_right" (defArgs s__law_right) (defBody s__law_right) (defScope s__law_right) [] [] (He.fAd K ("_law_right", none)) fd) (TB : LamX.TabB base mg (He.codeOf K ("_law_right", none)) (He.tabOf K (He.codeOf K ("_law_right", none)))) (hT : (He.tabOf K (He.codeOf K ("_law_right", none)), ("_law_right.<locals>." ++ "<lambda>" : Str)) ∈ Tabl.T) (MET_law_met : Met_law_met K mg) (D__law_pick : CallD P w K mg base 2 "_law_pick" w__law_pick []) (MP_Reader_2 : MakeP P w K mg base 4 "Reader" (He.ga K "Reader") [] w_Reader___init__) (cl_Reader : Cls K (He.ga K "Reader")) (ME_Reader_with_write_1 : MethD P w K mg base 8 (He.ga K "Reader") "with_write" (w_Reader_with_write (He.ga K)) []) (ME_Reader_with_read_2 : MethD P w K mg base 46 (He.ga K "Reader") "with_read" (w_Reader_with_read (He.ga K)) []) (PX_Reader_2 : MakeX P w K mg base 4 "Reader" (He.ga K "Reader") [] (wx_Reader___init__ (He.ga K))) (mg_Refused : mg "Refused" = some (.ref (He.ga K "Refused"))) (XF_Refused : XfD K (He.ga K "Refused") "reason") (mg_InvalidNumber : mg "InvalidNumber" = some (.ref (He.ga K "InvalidNumber"))) (b_repr : mg "repr" = none) (XF_InvalidNumber : XfD K (He.ga K "InvalidNumber") "given") (mg_InvalidQuestion : mg "InvalidQuestion" = some (.ref (He.ga K "InvalidQuestion"))) (mg_InvalidOperation : mg "InvalidOperation" = some (.ref (He.ga K "InvalidOperation"))) (mg_InvalidInstant : mg "InvalidInstant" = some (.ref (He.ga K "InvalidInstant"))) (mg_InvalidDeed : mg "InvalidDeed" = some (.ref (He.ga K "InvalidDeed"))) (MX_Reader_with_read_2 : MethX P w K mg base 46 (He.ga K "Reader") "with_read" (wx_Reader_with_read (He.ga K)) []) (MX_Reader_with_write_1 : MethX P w K mg base 8 (He.ga K "Reader") "with_write" (wx_Reader_with_write (He.ga K)) []) (MX_Reader_answered_2 : MethX P w K mg base 7 (He.ga K "Reader") "answered" (wx_Reader_answered (He.ga K)) []) (MX_Reader_heard_done_2 : MethX P w K mg base 7 (He.ga K "Reader") "heard_done" (wx_Reader_heard_done (He.ga K)) []) (MX_Reader_dropped_0 : MethX P w K mg base 7 (He.ga K "Reader") "dropped" (wx_Reader_dropped (He.ga K)) []) (ME_Reader_dropped_0 : MethD P w K mg base 7 (He.ga K "Reader") "dropped" (w_Reader_dropped (He.ga K)) []) (ME_Reader_fallen_0 : MethD P w K mg base 7 (He.ga K "Reader") "fallen" (w_Reader_fallen (He.ga K)) []) (DX_open_reads : CallX P w K mg base 3 "open_reads" (wx_open_reads (He.ga K)) []) (DX_open_writes : CallX P w K mg base 3 "open_writes" (wx_open_writes (He.ga K)) []) : FnG P w K mg base CX0 50 (He.fAd K ("_law_right", none)) fd ["dice"] (spT K (w__law_right (He.ga K) (PySem.W.exmOne K))) :=
  by
  obtain ⟨g_law_met, fd_law_met, Fm_law_met, hm_law_met, hk_law_met, hb_law_met⟩ := MET_law_met
  refine fn_treeLG F sc__law_right rfl rfl fun A outer s H E hr hG => ?_
  exact (gss_cons (gs_asg 11 (ge_callD D__law_pick hr (by rfl) CTs.nil (ga_cons (ge_var 0) (ga_cons (GL.ge (gl_lst (ga_cons ge_non (ga_cons (ge_neg ge_int) (ga_cons ge_int (ga_cons ge_bl (ga_cons ge_str (ga_cons (ge_tup (ga_cons ge_int ga_nil)) (ga_cons (ge_op op_powW sop_pow ge_int ge_int) ga_nil))))))))) ga_nil))) sc__law_right.nd) (gss_cons (gs_asg 13 (ge_callD D__law_pick hr (by rfl) CTs.nil (ga_cons (ge_var 0) (ga_cons (GL.ge (gl_lst (ga_cons ge_non (ga_cons ge_int (ga_cons ge_int (ga_cons ge_bl (ga_cons ge_str (ga_cons (ge_tup (ga_cons ge_int ga_nil)) (ga_cons (ge_op op_powW sop_pow ge_int ge_int) ga_nil))))))))) ga_nil))) sc__law_right.nd) (gss_cons (gs_asg 14 (ge_callD D__law_pick hr (by rfl) CTs.nil (ga_cons (ge_var 0) (ga_cons (GL.ge (gl_lst (ga_cons ge_non (ga_cons ge_str (ga_cons (ge_tup (ga_cons ge_str (ga_cons ge_str ga_nil))) (ga_cons (ge_tup (ga_cons ge_str (ga_cons ge_str ga_nil))) (ga_cons (GL.ge (gl_lst (ga_cons ge_str (ga_cons ge_str ga_nil)))) (ga_cons (ge_tup ga_nil) (ga_cons ge_dct0 (ga_cons ge_int (ga_cons (ge_tup (ga_cons ge_str (ga_cons (ge_tup (ga_cons ge_str (ga_cons ge_str ga_nil))) ga_nil))) ga_nil))))))))))) ga_nil))) sc__law_right.nd) (gss_cons (gs_asg 6 (ge_callD D__law_pick hr (by rfl) CTs.nil (ga_cons (ge_var 0) (ga_cons (GL.ge (gl_lst (ga_cons ge_non (ga_cons (ge_neg ge_int) (ga_cons (ge_op op_addA sop_add (ge_op op_powW sop_pow ge_int ge_int) ge_int) (ga_cons ge_bl (ga_cons ge_str (ga_cons (ge_tup (ga_cons ge_int ga_nil)) (ga_cons (ge_op op_powW sop_pow ge_int ge_int) ga_nil))))))))) ga_nil))) sc__law_right.nd) (gss_cons (gs_asg 7 (ge_callD D__law_pick hr (by rfl) CTs.nil (ga_cons (ge_var 0) (ga_cons (GL.ge (gl_lst (ga_cons ge_non (ga_cons (ge_tup ga_nil) (ga_cons (ge_tup (ga_cons ge_str (ga_cons ge_int ga_nil))) (ga_cons (ge_tup (ga_cons (ge_tup (ga_cons ge_str (ga_cons ge_int ga_nil))) ga_nil)) (ga_cons (GL.ge (gl_lst (ga_cons (ge_tup (ga_cons ge_str (ga_cons ge_int ga_nil))) ga_nil))) (ga_cons (ge_tup (ga_cons (ge_tup (ga_cons ge_str (ga_cons ge_int ga_nil))) (ga_cons (ge_tup (ga_cons ge_str (ga_cons ge_int ga_nil))) ga_nil))) (ga_cons ge_dct0 (ga_cons ge_int (ga_cons (ge_tup (ga_cons (ge_tup (ga_cons ge_str (ga_cons ge_str ga_nil))) ga_nil)) (ga_cons (ge_tup (ga_cons (ge_tup (ga_cons ge_str (ga_cons (ge_op op_powW sop_pow ge_int ge_int) ga_nil))) ga_nil)) ga_nil)))))))))))) ga_nil))) sc__law_right.nd) (gss_cons (gs_asg 9 (ge_callD D__law_pick hr (by rfl) CTs.nil (ga_cons (ge_var 0) (ga_cons (GL.ge (gl_lst (ga_cons ge_non (ga_cons ge_int (ga_cons (ge_neg ge_int) (ga_cons ge_bl (ga_cons ge_str (ga_cons (ge_tup (ga_cons ge_int ga_nil)) (ga_cons (ge_op op_powW sop_pow ge_int ge_int) ga_nil))))))))) ga_nil))) sc__law_right.nd) (gss_cons (gs_asg 10 (ge_callD D__law_pick hr (by rfl) CTs.nil (ga_cons (ge_var 0) (ga_cons (GL.ge (gl_lst (ga_cons ge_non (ga_cons ge_int (ga_cons (ge_tup (ga_cons ge_int ga_nil)) (ga_cons (ge_tup (ga_cons ge_int (ga_cons ge_int (ga_cons ge_int ga_nil)))) (ga_cons (GL.ge (gl_lst (ga_cons ge_int (ga_cons ge_int ga_nil)))) (ga_cons (ge_tup (ga_cons ge_bl (ga_cons ge_int ga_nil))) (ga_cons (ge_tup (ga_cons ge_int (ga_cons (ge_neg ge_int) ga_nil))) (ga_cons (ge_tup (ga_cons ge_int (ga_cons ge_str ga_nil))) (ga_cons ge_dct0 ga_nil))))))))))) ga_nil))) sc__law_right.nd) (gss_cons (gs_asg 8 (ge_makeP MP_Reader_2 hr (by rfl) (ga_cons ge_int (ga_cons ge_int ga_nil))) sc__law_right.nd) (gss_cons (gs_asg 12 (ge_meth ME_Reader_with_write_1 cl_Reader hr CTs.nil (ge_meth ME_Reader_with_read_2 cl_Reader hr CTs.nil (ge_var 8) (ga_cons (ge_tup (ga_cons ge_str (ga_cons ge_str ga_nil))) (ga_cons ge_int ga_nil))) (ga_cons (ge_tup (ga_cons (ge_tup (ga_cons ge_str (ga_cons ge_int ga_nil))) ga_nil)) ga_nil)) sc__law_right.nd) (gss_cons (gs_asg 15 (ge_callD D__law_pick hr (by rfl) CTs.nil (ga_cons (ge_var 0) (ga_cons (GL.ge (gl_lst (ga_cons ge_non (ga_cons (GL.ge (gl_lst (ga_cons (ge_var 8) ga_nil))) (ga_cons (ge_var 8) (ga_cons (ge_tup (ga_cons (ge_var 8) (ga_cons ge_non ga_nil))) (ga_cons (ge_tup (ga_cons (ge_var 8) (ga_cons (ge_var 8) ga_nil))) (ga_cons (ge_tup (ga_cons (ge_makeP MP_Reader_2 hr (by rfl) (ga_cons ge_int (ga_cons ge_int ga_nil))) (ga_cons (ge_var 8) ga_nil))) (ga_cons ge_str (ga_cons ge_dct0 (ga_cons (ge_tup (ga_cons ge_int ga_nil)) ga_nil))))))))))) ga_nil))) sc__law_right.nd) (gss_cons (gs_own 1 (gl_lst (ga_cons (ge_metA (k := 6) (Ng := N__law_met) (a := "call") (l := hd__law_met (He.ga K)) hG Fm_law_met (MetHA.bare (by rfl) mg_InvalidDeed (fun Z a oe cls d pn hZ hz hf => (ge_tup (ga_cons ge_str (ga_cons ge_str ga_nil)))) (MetHA.bare (by rfl) mg_InvalidInstant (fun Z a oe cls d pn hZ hz hf => (ge_tup (ga_cons ge_str (ga_cons ge_str ga_nil)))) (MetHA.bare (by rfl) mg_InvalidOperation (fun Z a oe cls d pn hZ hz hf => (ge_tup (ga_cons ge_str (ga_cons ge_str ga_nil)))) (MetHA.bare (by rfl) mg_InvalidQuestion (fun Z a oe cls d pn hZ hz hf => (ge_tup (ga_cons ge_str (ga_cons ge_str ga_nil)))) (MetHA.as (by rfl) mg_InvalidNumber rfl rfl (fun Z a oe cls d pn hZ hz hf => (ge_tup (ga_cons ge_str (ga_cons ge_str (ga_cons (ge_cb (call_reprZ hZ.ng hZ.un) sc_reprZ (hZ.gl rfl) (hZ.mg0 b_repr) (by decide +kernel) (ga_cons (ge_xf 1 hZ XF_InvalidNumber hz hf rfl (.inl rfl)) ga_nil)) ga_nil))))) (MetHA.as (by rfl) mg_Refused rfl rfl (fun Z a oe cls d pn hZ hz hf => (ge_tup (ga_cons ge_str (ga_cons ge_str (ga_cons (ge_xf 1 hZ XF_Refused hz hf rfl (.inl rfl)) ga_nil))))) MetHA.nil)))))) (fun _ => (ge_tup (ga_cons ge_str ga_nil))) (by rfl) hm_law_met hk_law_met hb_law_met sc__law_met rfl (.inl rfl) (fun _ => rfl) TB rfl hT (hr.mono (by decide)) (lamS_by (sc := defScope s__law_right) (by decide +kernel)) rfl (fun _ _ _ _ _ => rfl) fun _ _ _ _ _ _ _ hr tk => (gxe_makeX tk PX_Reader_2 hr (by rfl) (ga_cons (ge_var 11) (ga_cons (ge_var 13) ga_nil)))) ga_nil)) sc__law_right.nd) (gss_cons (gs_app 1 (ge_metA (k := 6) (Ng := N__law_met) (a := "call") (l := hd__law_met (He.ga K)) hG Fm_law_met (MetHA.bare (by rfl) mg_InvalidDeed (fun Z a oe cls d pn hZ hz hf => (ge_tup (ga_cons ge_str (ga_cons ge_str ga_nil)))) (MetHA.bare (by rfl) mg_InvalidInstant (fun Z a oe cls d pn hZ hz hf => (ge_tup (ga_cons ge_str (ga_cons ge_str ga_nil)))) (MetHA.bare (by rfl) mg_InvalidOperation (fun Z a oe cls d pn hZ hz hf => (ge_tup (ga_cons ge_str (ga_cons ge_str ga_nil)))) (MetHA.bare (by rfl) mg_InvalidQuestion (fun Z a oe cls d pn hZ hz hf => (ge_tup (ga_cons ge_str (ga_cons ge_str ga_nil)))) (MetHA.as (by rfl) mg_InvalidNumber rfl rfl (fun Z a oe cls d pn hZ hz hf => (ge_tup (ga_cons ge_str (ga_cons ge_str (ga_cons (ge_cb (call_reprZ hZ.ng hZ.un) sc_reprZ (hZ.gl rfl) (hZ.mg0 b_repr) (by decide +kernel) (ga_cons (ge_xf 1 hZ XF_InvalidNumber hz hf rfl (.inl rfl)) ga_nil)) ga_nil))))) (MetHA.as (by rfl) mg_Refused rfl rfl (fun Z a oe cls d pn hZ hz hf => (ge_tup (ga_cons ge_str (ga_cons ge_str (ga_cons (ge_xf 1 hZ XF_Refused hz hf rfl (.inl rfl)) ga_nil))))) MetHA.nil)))))) (fun _ => (ge_tup (ga_cons ge_str ga_nil))) (by rfl) hm_law_met hk_law_met hb_law_met sc__law_met rfl (.inl rfl) (fun _ => rfl) TB rfl hT (hr.mono (by decide)) (lamS_by (sc := defScope s__law_right) (by decide +kernel)) rfl (fun _ _ _ _ _ => rfl) fun _ _ _ _ _ _ _ hr tk => (gxe_makeX tk PX_Reader_2 hr (by rfl) (ga_cons ge_int (ga_cons (ge_var 13) ga_nil))))) (gss_cons (gs_app 1 (ge_metA (k := 47) (Ng := N__law_met) (a := "call") (l := hd__law_met (He.ga K)) hG Fm_law_met (MetHA.bare (by rfl) mg_InvalidDeed (fun Z a oe cls d pn hZ hz hf => (ge_tup (ga_cons ge_str (ga_cons ge_str ga_nil)))) (MetHA.bare (by rfl) mg_InvalidInstant (fun Z a oe cls d pn hZ hz hf => (ge_tup (ga_cons ge_str (ga_cons ge_str ga_nil)))) (MetHA.bare (by rfl) mg_InvalidOperation (fun Z a oe cls d pn hZ hz hf => (ge_tup (ga_cons ge_str (ga_cons ge_str ga_nil)))) (MetHA.bare (by rfl) mg_InvalidQuestion (fun Z a oe cls d pn hZ hz hf => (ge_tup (ga_cons ge_str (ga_cons ge_str ga_nil)))) (MetHA.as (by rfl) mg_InvalidNumber rfl rfl (fun Z a oe cls d pn hZ hz hf => (ge_tup (ga_cons ge_str (ga_cons ge_str (ga_cons (ge_cb (call_reprZ hZ.ng hZ.un) sc_reprZ (hZ.gl rfl) (hZ.mg0 b_repr) (by decide +kernel) (ga_cons (ge_xf 1 hZ XF_InvalidNumber hz hf rfl (.inl rfl)) ga_nil)) ga_nil))))) (MetHA.as (by rfl) mg_Refused rfl rfl (fun Z a oe cls d pn hZ hz hf => (ge_tup (ga_cons ge_str (ga_cons ge_str (ga_cons (ge_xf 1 hZ XF_Refused hz hf rfl (.inl rfl)) ga_nil))))) MetHA.nil)))))) (fun _ => (ge_tup (ga_cons ge_str ga_nil))) (by rfl) hm_law_met hk_law_met hb_law_met sc__law_met rfl (.inl rfl) (fun _ => rfl) TB rfl hT (hr.mono (by decide)) (lamS_by (sc := defScope s__law_right) (by decide +kernel)) rfl (fun _ _ _ _ _ => rfl) fun _ _ _ _ _ _ _ hr tk => (gxe_methX tk MX_Reader_with_read_2 cl_Reader hr CTs.nil (ge_var 8) (ga_cons (ge_var 14) (ga_cons (ge_var 6) ga_nil))))) (gss_cons (gs_app 1 (ge_metA (k := 47) (Ng := N__law_met) (a := "call") (l := hd__law_met (He.ga K)) hG Fm_law_met (MetHA.bare (by rfl) mg_InvalidDeed (fun Z a oe cls d pn hZ hz hf => (ge_tup (ga_cons ge_str (ga_cons ge_str ga_nil)))) (MetHA.bare (by rfl) mg_InvalidInstant (fun Z a oe cls d pn hZ hz hf => (ge_tup (ga_cons ge_str (ga_cons ge_str ga_nil)))) (MetHA.bare (by rfl) mg_InvalidOperation (fun Z a oe cls d pn hZ hz hf => (ge_tup (ga_cons ge_str (ga_cons ge_str ga_nil)))) (MetHA.bare (by rfl) mg_InvalidQuestion (fun Z a oe cls d pn hZ hz hf => (ge_tup (ga_cons ge_str (ga_cons ge_str ga_nil)))) (MetHA.as (by rfl) mg_InvalidNumber rfl rfl (fun Z a oe cls d pn hZ hz hf => (ge_tup (ga_cons ge_str (ga_cons ge_str (ga_cons (ge_cb (call_reprZ hZ.ng hZ.un) sc_reprZ (hZ.gl rfl) (hZ.mg0 b_repr) (by decide +kernel) (ga_cons (ge_xf 1 hZ XF_InvalidNumber hz hf rfl (.inl rfl)) ga_nil)) ga_nil))))) (MetHA.as (by rfl) mg_Refused rfl rfl (fun Z a oe cls d pn hZ hz hf => (ge_tup (ga_cons ge_str (ga_cons ge_str (ga_cons (ge_xf 1 hZ XF_Refused hz hf rfl (.inl rfl)) ga_nil))))) MetHA.nil)))))) (fun _ => (ge_tup (ga_cons ge_str ga_nil))) (by rfl) hm_law_met hk_law_met hb_law_met sc__law_met rfl (.inl rfl) (fun _ => rfl) TB rfl hT (hr.mono (by decide)) (lamS_by (sc := defScope s__law_right) (by decide +kernel)) rfl (fun _ _ _ _ _ => rfl) fun _ _ _ _ _ _ _ hr tk => (gxe_methX tk MX_Reader_with_read_2 cl_Reader hr CTs.nil (ge_var 12) (ga_cons (ge_tup (ga_cons ge_str (ga_cons ge_str ga_nil))) (ga_cons (ge_var 6) ga_nil))))) (gss_cons (gs_app 1 (ge_metA (k := 47) (Ng := N__law_met) (a := "call") (l := hd__law_met (He.ga K)) hG Fm_law_met (MetHA.bare (by rfl) mg_InvalidDeed (fun Z a oe cls d pn hZ hz hf => (ge_tup (ga_cons ge_str (ga_cons ge_str ga_nil)))) (MetHA.bare (by rfl) mg_InvalidInstant (fun Z a oe cls d pn hZ hz hf => (ge_tup (ga_cons ge_str (ga_cons ge_str ga_nil)))) (MetHA.bare (by rfl) mg_InvalidOperation (fun Z a oe cls d pn hZ hz hf => (ge_tup (ga_cons ge_str (ga_cons ge_str ga_nil)))) (MetHA.bare (by rfl) mg_InvalidQuestion (fun Z a oe cls d pn hZ hz hf => (ge_tup (ga_cons ge_str (ga_cons ge_str ga_nil)))) (MetHA.as (by rfl) mg_InvalidNumber rfl rfl (fun Z a oe cls d pn hZ hz hf => (ge_tup (ga_cons ge_str (ga_cons ge_str (ga_cons (ge_cb (call_reprZ hZ.ng hZ.un) sc_reprZ (hZ.gl rfl) (hZ.mg0 b_repr) (by decide +kernel) (ga_cons (ge_xf 1 hZ XF_InvalidNumber hz hf rfl (.inl rfl)) ga_nil)) ga_nil))))) (MetHA.as (by rfl) mg_Refused rfl rfl (fun Z a oe cls d pn hZ hz hf => (ge_tup (ga_cons ge_str (ga_cons ge_str (ga_cons (ge_xf 1 hZ XF_Refused hz hf rfl (.inl rfl)) ga_nil))))) MetHA.nil)))))) (fun _ => (ge_tup (ga_cons ge_str ga_nil))) (by rfl) hm_law_met hk_law_met hb_law_met sc__law_met rfl (.inl rfl) (fun _ => rfl) TB rfl hT (hr.mono (by decide)) (lamS_by (sc := defScope s__law_right) (by decide +kernel)) rfl (fun _ _ _ _ _ => rfl) fun _ _ _ _ _ _ _ hr tk => (gxe_methX tk MX_Reader_with_read_2 cl_Reader hr CTs.nil (ge_var 12) (ga_cons (ge_tup (ga_cons ge_str (ga_cons ge_str ga_nil))) (ga_cons (ge_op op_powW sop_pow ge_int ge_int) ga_nil))))) (gss_cons (gs_app 1 (ge_metA (k := 9) (Ng := N__law_met) (a := "call") (l := hd__law_met (He.ga K)) hG Fm_law_met (MetHA.bare (by rfl) mg_InvalidDeed (fun Z a oe cls d pn hZ hz hf => (ge_tup (ga_cons ge_str (ga_cons ge_str ga_nil)))) (MetHA.bare (by rfl) mg_InvalidInstant (fun Z a oe cls d pn hZ hz hf => (ge_tup (ga_cons ge_str (ga_cons ge_str ga_nil)))) (MetHA.bare (by rfl) mg_InvalidOperation (fun Z a oe cls d pn hZ hz hf => (ge_tup (ga_cons ge_str (ga_cons ge_str ga_nil)))) (MetHA.bare (by rfl) mg_InvalidQuestion (fun Z a oe cls d pn hZ hz hf => (ge_tup (ga_cons ge_str (ga_cons ge_str ga_nil)))) (MetHA.as (by rfl) mg_InvalidNumber rfl rfl (fun Z a oe cls d pn hZ hz hf => (ge_tup (ga_cons ge_str (ga_cons ge_str (ga_cons (ge_cb (call_reprZ hZ.ng hZ.un) sc_reprZ (hZ.gl rfl) (hZ.mg0 b_repr) (by decide +kernel) (ga_cons (ge_xf 1 hZ XF_InvalidNumber hz hf rfl (.inl rfl)) ga_nil)) ga_nil))))) (MetHA.as (by rfl) mg_Refused rfl rfl (fun Z a oe cls d pn hZ hz hf => (ge_tup (ga_cons ge_str (ga_cons ge_str (ga_cons (ge_xf 1 hZ XF_Refused hz hf rfl (.inl rfl)) ga_nil))))) MetHA.nil)))))) (fun _ => (ge_tup (ga_cons ge_str ga_nil))) (by rfl) hm_law_met hk_law_met hb_law_met sc__law_met rfl (.inl rfl) (fun _ => rfl) TB rfl hT (hr.mono (by decide)) (lamS_by (sc := defScope s__law_right) (by decide +kernel)) rfl (fun _ _ _ _ _ => rfl) fun _ _ _ _ _ _ _ hr tk => (gxe_methX tk MX_Reader_with_write_1 cl_Reader hr CTs.nil (ge_var 12) (ga_cons (ge_var 7) ga_nil)))) (gss_cons (gs_app 1 (ge_metA (k := 9) (Ng := N__law_met) (a := "call") (l := hd__law_met (He.ga K)) hG Fm_law_met (MetHA.bare (by rfl) mg_InvalidDeed (fun Z a oe cls d pn hZ hz hf => (ge_tup (ga_cons ge_str (ga_cons ge_str ga_nil)))) (MetHA.bare (by rfl) mg_InvalidInstant (fun Z a oe cls d pn hZ hz hf => (ge_tup (ga_cons ge_str (ga_cons ge_str ga_nil)))) (MetHA.bare (by rfl) mg_InvalidOperation (fun Z a oe cls d pn hZ hz hf => (ge_tup (ga_cons ge_str (ga_cons ge_str ga_nil)))) (MetHA.bare (by rfl) mg_InvalidQuestion (fun Z a oe cls d pn hZ hz hf => (ge_tup (ga_cons ge_str (ga_cons ge_str ga_nil)))) (MetHA.as (by rfl) mg_InvalidNumber rfl rfl (fun Z a oe cls d pn hZ hz hf => (ge_tup (ga_cons ge_str (ga_cons ge_str (ga_cons (ge_cb (call_reprZ hZ.ng hZ.un) sc_reprZ (hZ.gl rfl) (hZ.mg0 b_repr) (by decide +kernel) (ga_cons (ge_xf 1 hZ XF_InvalidNumber hz hf rfl (.inl rfl)) ga_nil)) ga_nil))))) (MetHA.as (by rfl) mg_Refused rfl rfl (fun Z a oe cls d pn hZ hz hf => (ge_tup (ga_cons ge_str (ga_cons ge_str (ga_cons (ge_xf 1 hZ XF_Refused hz hf rfl (.inl rfl)) ga_nil))))) MetHA.nil)))))) (fun _ => (ge_tup (ga_cons ge_str ga_nil))) (by rfl) hm_law_met hk_law_met hb_law_met sc__law_met rfl (.inl rfl) (fun _ => rfl) TB rfl hT (hr.mono (by decide)) (lamS_by (sc := defScope s__law_right) (by decide +kernel)) rfl (fun _ _ _ _ _ => rfl) fun _ _ _ _ _ _ _ hr tk => (gxe_methX tk MX_Reader_with_write_1 cl_Reader hr CTs.nil (ge_var 12) (ga_cons (ge_tup (ga_cons (ge_tup (ga_cons ge_str (ga_cons ge_int ga_nil))) ga_nil)) ga_nil)))) (gss_cons (gs_app 1 (ge_metA (k := 8) (Ng := N__law_met) (a := "call") (l := hd__law_met (He.ga K)) hG Fm_law_met (MetHA.bare (by rfl) mg_InvalidDeed (fun Z a oe cls d pn hZ hz hf => (ge_tup (ga_cons ge_str (ga_cons ge_str ga_nil)))) (MetHA.bare (by rfl) mg_InvalidInstant (fun Z a oe cls d pn hZ hz hf => (ge_tup (ga_cons ge_str (ga_cons ge_str ga_nil)))) (MetHA.bare (by rfl) mg_InvalidOperation (fun Z a oe cls d pn hZ hz hf => (ge_tup (ga_cons ge_str (ga_cons ge_str ga_nil)))) (MetHA.bare (by rfl) mg_InvalidQuestion (fun Z a oe cls d pn hZ hz hf => (ge_tup (ga_cons ge_str (ga_cons ge_str ga_nil)))) (MetHA.as (by rfl) mg_InvalidNumber rfl rfl (fun Z a oe cls d pn hZ hz hf => (ge_tup (ga_cons ge_str (ga_cons ge_str (ga_cons (ge_cb (call_reprZ hZ.ng hZ.un) sc_reprZ (hZ.gl rfl) (hZ.mg0 b_repr) (by decide +kernel) (ga_cons (ge_xf 1 hZ XF_InvalidNumber hz hf rfl (.inl rfl)) ga_nil)) ga_nil))))) (MetHA.as (by rfl) mg_Refused rfl rfl (fun Z a oe cls d pn hZ hz hf => (ge_tup (ga_cons ge_str (ga_cons ge_str (ga_cons (ge_xf 1 hZ XF_Refused hz hf rfl (.inl rfl)) ga_nil))))) MetHA.nil)))))) (fun _ => (ge_tup (ga_cons ge_str ga_nil))) (by rfl) hm_law_met hk_law_met hb_law_met sc__law_met rfl (.inl rfl) (fun _ => rfl) TB rfl hT (hr.mono (by decide)) (lamS_by (sc := defScope s__law_right) (by decide +kernel)) rfl (fun _ _ _ _ _ => rfl) fun _ _ _ _ _ _ _ hr tk => (gxe_methX tk MX_Reader_answered_2 cl_Reader hr CTs.nil (ge_var 8) (ga_cons (ge_var 9) (ga_cons (ge_var 10) ga_nil))))) (gss_cons (gs_app 1 (ge_metA (k := 8) (Ng := N__law_met) (a := "call") (l := hd__law_met (He.ga K)) hG Fm_law_met (MetHA.bare (by rfl) mg_InvalidDeed (fun Z a oe cls d pn hZ hz hf => (ge_tup (ga_cons ge_str (ga_cons ge_str ga_nil)))) (MetHA.bare (by rfl) mg_InvalidInstant (fun Z a oe cls d pn hZ hz hf => (ge_tup (ga_cons ge_str (ga_cons ge_str ga_nil)))) (MetHA.bare (by rfl) mg_InvalidOperation (fun Z a oe cls d pn hZ hz hf => (ge_tup (ga_cons ge_str (ga_cons ge_str ga_nil)))) (MetHA.bare (by rfl) mg_InvalidQuestion (fun Z a oe cls d pn hZ hz hf => (ge_tup (ga_cons ge_str (ga_cons ge_str ga_nil)))) (MetHA.as (by rfl) mg_InvalidNumber rfl rfl (fun Z a oe cls d pn hZ hz hf => (ge_tup (ga_cons ge_str (ga_cons ge_str (ga_cons (ge_cb (call_reprZ hZ.ng hZ.un) sc_reprZ (hZ.gl rfl) (hZ.mg0 b_repr) (by decide +kernel) (ga_cons (ge_xf 1 hZ XF_InvalidNumber hz hf rfl (.inl rfl)) ga_nil)) ga_nil))))) (MetHA.as (by rfl) mg_Refused rfl rfl (fun Z a oe cls d pn hZ hz hf => (ge_tup (ga_cons ge_str (ga_cons ge_str (ga_cons (ge_xf 1 hZ XF_Refused hz hf rfl (.inl rfl)) ga_nil))))) MetHA.nil)))))) (fun _ => (ge_tup (ga_cons ge_str ga_nil))) (by rfl) hm_law_met hk_law_met hb_law_met sc__law_met rfl (.inl rfl) (fun _ => rfl) TB rfl hT (hr.mono (by decide)) (lamS_by (sc := defScope s__law_right) (by decide +kernel)) rfl (fun _ _ _ _ _ => rfl) fun _ _ _ _ _ _ _ hr tk => (gxe_methX tk MX_Reader_answered_2 cl_Reader hr CTs.nil (ge_var 8) (ga_cons ge_int (ga_cons (ge_var 10) ga_nil))))) (gss_cons (gs_app 1 (ge_metA (k := 8) (Ng := N__law_met) (a := "call") (l := hd__law_met (He.ga K)) hG Fm_law_met (MetHA.bare (by rfl) mg_InvalidDeed (fun Z a oe cls d pn hZ hz hf => (ge_tup (ga_cons ge_str (ga_cons ge_str ga_nil)))) (MetHA.bare (by rfl) mg_InvalidInstant (fun Z a oe cls d pn hZ hz hf => (ge_tup (ga_cons ge_str (ga_cons ge_str ga_nil)))) (MetHA.bare (by rfl) mg_InvalidOperation (fun Z a oe cls d pn hZ hz hf => (ge_tup (ga_cons ge_str (ga_cons ge_str ga_nil)))) (MetHA.bare (by rfl) mg_InvalidQuestion (fun Z a oe cls d pn hZ hz hf => (ge_tup (ga_cons ge_str (ga_cons ge_str ga_nil)))) (MetHA.as (by rfl) mg_InvalidNumber rfl rfl (fun Z a oe cls d pn hZ hz hf => (ge_tup (ga_cons ge_str (ga_cons ge_str (ga_cons (ge_cb (call_reprZ hZ.ng hZ.un) sc_reprZ (hZ.gl rfl) (hZ.mg0 b_repr) (by decide +kernel) (ga_cons (ge_xf 1 hZ XF_InvalidNumber hz hf rfl (.inl rfl)) ga_nil)) ga_nil))))) (MetHA.as (by rfl) mg_Refused rfl rfl (fun Z a oe cls d pn hZ hz hf => (ge_tup (ga_cons ge_str (ga_cons ge_str (ga_cons (ge_xf 1 hZ XF_Refused hz hf rfl (.inl rfl)) ga_nil))))) MetHA.nil)))))) (fun _ => (ge_tup (ga_cons ge_str ga_nil))) (by rfl) hm_law_met hk_law_met hb_law_met sc__law_met rfl (.inl rfl) (fun _ => rfl) TB rfl hT (hr.mono (by decide)) (lamS_by (sc := defScope s__law_right) (by decide +kernel)) rfl (fun _ _ _ _ _ => rfl) fun _ _ _ _ _ _ _ hr tk => (gxe_methX tk MX_Reader_heard_done_2 cl_Reader hr CTs.nil (ge_var 12) (ga_cons (ge_var 9) (ga_cons (ge_var 10) ga_nil))))) (gss_cons (gs_app 1 (ge_metA (k := 8) (Ng := N__law_met) (a := "call") (l := hd__law_met (He.ga K)) hG Fm_law_met (MetHA.bare (by rfl) mg_InvalidDeed (fun Z a oe cls d pn hZ hz hf => (ge_tup (ga_cons ge_str (ga_cons ge_str ga_nil)))) (MetHA.bare (by rfl) mg_InvalidInstant (fun Z a oe cls d pn hZ hz hf => (ge_tup (ga_cons ge_str (ga_cons ge_str ga_nil)))) (MetHA.bare (by rfl) mg_InvalidOperation (fun Z a oe cls d pn hZ hz hf => (ge_tup (ga_cons ge_str (ga_cons ge_str ga_nil)))) (MetHA.bare (by rfl) mg_InvalidQuestion (fun Z a oe cls d pn hZ hz hf => (ge_tup (ga_cons ge_str (ga_cons ge_str ga_nil)))) (MetHA.as (by rfl) mg_InvalidNumber rfl rfl (fun Z a oe cls d pn hZ hz hf => (ge_tup (ga_cons ge_str (ga_cons ge_str (ga_cons (ge_cb (call_reprZ hZ.ng hZ.un) sc_reprZ (hZ.gl rfl) (hZ.mg0 b_repr) (by decide +kernel) (ga_cons (ge_xf 1 hZ XF_InvalidNumber hz hf rfl (.inl rfl)) ga_nil)) ga_nil))))) (MetHA.as (by rfl) mg_Refused rfl rfl (fun Z a oe cls d pn hZ hz hf => (ge_tup (ga_cons ge_str (ga_cons ge_str (ga_cons (ge_xf 1 hZ XF_Refused hz hf rfl (.inl rfl)) ga_nil))))) MetHA.nil)))))) (fun _ => (ge_tup (ga_cons ge_str ga_nil))) (by rfl) hm_law_met hk_law_met hb_law_met sc__law_met rfl (.inl rfl) (fun _ => rfl) TB rfl hT (hr.mono (by decide)) (lamS_by (sc := defScope s__law_right) (by decide +kernel)) rfl (fun _ _ _ _ _ => rfl) fun _ _ _ _ _ _ _ hr tk => (gxe_methX tk MX_Reader_heard_done_2 cl_Reader hr CTs.nil (ge_var 12) (ga_cons ge_int (ga_cons (ge_var 10) ga_nil))))) (gss_cons (gs_app 1 (ge_metA (k := 8) (Ng := N__law_met) (a := "call") (l := hd__law_met (He.ga K)) hG Fm_law_met (MetHA.bare (by rfl) mg_InvalidDeed (fun Z a oe cls d pn hZ hz hf => (ge_tup (ga_cons ge_str (ga_cons ge_str ga_nil)))) (MetHA.bare (by rfl) mg_InvalidInstant (fun Z a oe cls d pn hZ hz hf => (ge_tup (ga_cons ge_str (ga_cons ge_str ga_nil)))) (MetHA.bare (by rfl) mg_InvalidOperation (fun Z a oe cls d pn hZ hz hf => (ge_tup (ga_cons ge_str (ga_cons ge_str ga_nil)))) (MetHA.bare (by rfl) mg_InvalidQuestion (fun Z a oe cls d pn hZ hz hf => (ge_tup (ga_cons ge_str (ga_cons ge_str ga_nil)))) (MetHA.as (by rfl) mg_InvalidNumber rfl rfl (fun Z a oe cls d pn hZ hz hf => (ge_tup (ga_cons ge_str (ga_cons ge_str (ga_cons (ge_cb (call_reprZ hZ.ng hZ.un) sc_reprZ (hZ.gl rfl) (hZ.mg0 b_repr) (by decide +kernel) (ga_cons (ge_xf 1 hZ XF_InvalidNumber hz hf rfl (.inl rfl)) ga_nil)) ga_nil))))) (MetHA.as (by rfl) mg_Refused rfl rfl (fun Z a oe cls d pn hZ hz hf => (ge_tup (ga_cons ge_str (ga_cons ge_str (ga_cons (ge_xf 1 hZ XF_Refused hz hf rfl (.inl rfl)) ga_nil))))) MetHA.nil)))))) (fun _ => (ge_tup (ga_cons ge_str ga_nil))) (by rfl) hm_law_met hk_law_met hb_law_met sc__law_met rfl (.inl rfl) (fun _ => rfl) TB rfl hT (hr.mono (by decide)) (lamS_by (sc := defScope s__law_right) (by decide +kernel)) rfl (fun _ _ _ _ _ => rfl) fun _ _ _ _ _ _ _ hr tk => (gxe_methX0 tk MX_Reader_dropped_0 cl_Reader hr CTs.nil (ge_var 8)))) (gss_cons (gs_app 1 (ge_metA (k := 8) (Ng := N__law_met) (a := "call") (l := hd__law_met (He.ga K)) hG Fm_law_met (MetHA.bare (by rfl) mg_InvalidDeed (fun Z a oe cls d pn hZ hz hf => (ge_tup (ga_cons ge_str (ga_cons ge_str ga_nil)))) (MetHA.bare (by rfl) mg_InvalidInstant (fun Z a oe cls d pn hZ hz hf => (ge_tup (ga_cons ge_str (ga_cons ge_str ga_nil)))) (MetHA.bare (by rfl) mg_InvalidOperation (fun Z a oe cls d pn hZ hz hf => (ge_tup (ga_cons ge_str (ga_cons ge_str ga_nil)))) (MetHA.bare (by rfl) mg_InvalidQuestion (fun Z a oe cls d pn hZ hz hf => (ge_tup (ga_cons ge_str (ga_cons ge_str ga_nil)))) (MetHA.as (by rfl) mg_InvalidNumber rfl rfl (fun Z a oe cls d pn hZ hz hf => (ge_tup (ga_cons ge_str (ga_cons ge_str (ga_cons (ge_cb (call_reprZ hZ.ng hZ.un) sc_reprZ (hZ.gl rfl) (hZ.mg0 b_repr) (by decide +kernel) (ga_cons (ge_xf 1 hZ XF_InvalidNumber hz hf rfl (.inl rfl)) ga_nil)) ga_nil))))) (MetHA.as (by rfl) mg_Refused rfl rfl (fun Z a oe cls d pn hZ hz hf => (ge_tup (ga_cons ge_str (ga_cons ge_str (ga_cons (ge_xf 1 hZ XF_Refused hz hf rfl (.inl rfl)) ga_nil))))) MetHA.nil)))))) (fun _ => (ge_tup (ga_cons ge_str ga_nil))) (by rfl) hm_law_met hk_law_met hb_law_met sc__law_met rfl (.inl rfl) (fun _ => rfl) TB rfl hT (hr.mono (by decide)) (lamS_by (sc := defScope s__law_right) (by decide +kernel)) rfl (fun _ _ _ _ _ => rfl) fun _ _ _ _ _ _ _ hr tk => (gxe_methX0 tk MX_Reader_dropped_0 cl_Reader hr CTs.nil (ge_meth0 ME_Reader_dropped_0 cl_Reader hr CTs.nil (ge_var 12))))) (gss_cons (gs_app 1 (ge_metA (k := 8) (Ng := N__law_met) (a := "call") (l := hd__law_met (He.ga K)) hG Fm_law_met (MetHA.bare (by rfl) mg_InvalidDeed (fun Z a oe cls d pn hZ hz hf => (ge_tup (ga_cons ge_str (ga_cons ge_str ga_nil)))) (MetHA.bare (by rfl) mg_InvalidInstant (fun Z a oe cls d pn hZ hz hf => (ge_tup (ga_cons ge_str (ga_cons ge_str ga_nil)))) (MetHA.bare (by rfl) mg_InvalidOperation (fun Z a oe cls d pn hZ hz hf => (ge_tup (ga_cons ge_str (ga_cons ge_str ga_nil)))) (MetHA.bare (by rfl) mg_InvalidQuestion (fun Z a oe cls d pn hZ hz hf => (ge_tup (ga_cons ge_str (ga_cons ge_str ga_nil)))) (MetHA.as (by rfl) mg_InvalidNumber rfl rfl (fun Z a oe cls d pn hZ hz hf => (ge_tup (ga_cons ge_str (ga_cons ge_str (ga_cons (ge_cb (call_reprZ hZ.ng hZ.un) sc_reprZ (hZ.gl rfl) (hZ.mg0 b_repr) (by decide +kernel) (ga_cons (ge_xf 1 hZ XF_InvalidNumber hz hf rfl (.inl rfl)) ga_nil)) ga_nil))))) (MetHA.as (by rfl) mg_Refused rfl rfl (fun Z a oe cls d pn hZ hz hf => (ge_tup (ga_cons ge_str (ga_cons ge_str (ga_cons (ge_xf 1 hZ XF_Refused hz hf rfl (.inl rfl)) ga_nil))))) MetHA.nil)))))) (fun _ => (ge_tup (ga_cons ge_str ga_nil))) (by rfl) hm_law_met hk_law_met hb_law_met sc__law_met rfl (.inl rfl) (fun _ => rfl) TB rfl hT (hr.mono (by decide)) (lamS_by (sc := defScope s__law_right) (by decide +kernel)) rfl (fun _ _ _ _ _ => rfl) fun _ _ _ _ _ _ _ hr tk => (gxe_methX0 tk MX_Reader_dropped_0 cl_Reader hr CTs.nil (ge_meth0 ME_Reader_fallen_0 cl_Reader hr CTs.nil (ge_var 12))))) (gss_cons (gs_app 1 (ge_metA (k := 4) (Ng := N__law_met) (a := "call") (l := hd__law_met (He.ga K)) hG Fm_law_met (MetHA.bare (by rfl) mg_InvalidDeed (fun Z a oe cls d pn hZ hz hf => (ge_tup (ga_cons ge_str (ga_cons ge_str ga_nil)))) (MetHA.bare (by rfl) mg_InvalidInstant (fun Z a oe cls d pn hZ hz hf => (ge_tup (ga_cons ge_str (ga_cons ge_str ga_nil)))) (MetHA.bare (by rfl) mg_InvalidOperation (fun Z a oe cls d pn hZ hz hf => (ge_tup (ga_cons ge_str (ga_cons ge_str ga_nil)))) (MetHA.bare (by rfl) mg_InvalidQuestion (fun Z a oe cls d pn hZ hz hf => (ge_tup (ga_cons ge_str (ga_cons ge_str ga_nil)))) (MetHA.as (by rfl) mg_InvalidNumber rfl rfl (fun Z a oe cls d pn hZ hz hf => (ge_tup (ga_cons ge_str (ga_cons ge_str (ga_cons (ge_cb (call_reprZ hZ.ng hZ.un) sc_reprZ (hZ.gl rfl) (hZ.mg0 b_repr) (by decide +kernel) (ga_cons (ge_xf 1 hZ XF_InvalidNumber hz hf rfl (.inl rfl)) ga_nil)) ga_nil))))) (MetHA.as (by rfl) mg_Refused rfl rfl (fun Z a oe cls d pn hZ hz hf => (ge_tup (ga_cons ge_str (ga_cons ge_str (ga_cons (ge_xf 1 hZ XF_Refused hz hf rfl (.inl rfl)) ga_nil))))) MetHA.nil)))))) (fun _ => (ge_tup (ga_cons ge_str ga_nil))) (by rfl) hm_law_met hk_law_met hb_law_met sc__law_met rfl (.inl rfl) (fun _ => rfl) TB rfl hT (hr.mono (by decide)) (lamS_by (sc := defScope s__law_right) (by decide +kernel)) rfl (fun _ _ _ _ _ => rfl) fun _ _ _ _ _ _ _ hr tk => (gxe_callX tk DX_open_reads hr (by rfl) CTs.nil (ga_cons (ge_var 15) ga_nil)))) (gss_cons (gs_app 1 (ge_metA (k := 4) (Ng := N__law_met) (a := "call") (l := hd__law_met (He.ga K)) hG Fm_law_met (MetHA.bare (by rfl) mg_InvalidDeed (fun Z a oe cls d pn hZ hz hf => (ge_tup (ga_cons ge_str (ga_cons ge_str ga_nil)))) (MetHA.bare (by rfl) mg_InvalidInstant (fun Z a oe cls d pn hZ hz hf => (ge_tup (ga_cons ge_str (ga_cons ge_str ga_nil)))) (MetHA.bare (by rfl) mg_InvalidOperation (fun Z a oe cls d pn hZ hz hf => (ge_tup (ga_cons ge_str (ga_cons ge_str ga_nil)))) (MetHA.bare (by rfl) mg_InvalidQuestion (fun Z a oe cls d pn hZ hz hf => (ge_tup (ga_cons ge_str (ga_cons ge_str ga_nil)))) (MetHA.as (by rfl) mg_InvalidNumber rfl rfl (fun Z a oe cls d pn hZ hz hf => (ge_tup (ga_cons ge_str (ga_cons ge_str (ga_cons (ge_cb (call_reprZ hZ.ng hZ.un) sc_reprZ (hZ.gl rfl) (hZ.mg0 b_repr) (by decide +kernel) (ga_cons (ge_xf 1 hZ XF_InvalidNumber hz hf rfl (.inl rfl)) ga_nil)) ga_nil))))) (MetHA.as (by rfl) mg_Refused rfl rfl (fun Z a oe cls d pn hZ hz hf => (ge_tup (ga_cons ge_str (ga_cons ge_str (ga_cons (ge_xf 1 hZ XF_Refused hz hf rfl (.inl rfl)) ga_nil))))) MetHA.nil)))))) (fun _ => (ge_tup (ga_cons ge_str ga_nil))) (by rfl) hm_law_met hk_law_met hb_law_met sc__law_met rfl (.inl rfl) (fun _ => rfl) TB rfl hT (hr.mono (by decide)) (lamS_by (sc := defScope s__law_right) (by decide +kernel)) rfl (fun _ _ _ _ _ => rfl) fun _ _ _ _ _ _ _ hr tk => (gxe_callX tk DX_open_writes hr (by rfl) CTs.nil (ga_cons (ge_var 15) ga_nil)))) (gss_frz 1 (gss_cons (gs_par3 2 3 4 (by rfl) sc__law_right.nd (by rfl) (by rfl) (by rfl) (by decide) (by decide) (by decide) (by rfl) (by rfl) (by rfl) (ga_cons (ge_tup (ga_cons ge_str (ga_cons ge_str (ga_cons (ge_cb (call_reprZ hG hr.units) sc_reprZ (by rfl) b_repr (by decide +kernel) (ga_cons (ge_var 9) ga_nil)) ga_nil)))) (ga_cons (ge_tup (ga_cons ge_str (ga_cons ge_str (ga_cons (ge_tup (ga_cons ge_str ga_nil)) ga_nil)))) (ga_cons (ge_tup (ga_cons ge_str (ga_cons ge_str (ga_cons (ge_tup (ga_cons ge_str ga_nil)) ga_nil)))) ga_nil))) (by rfl)) (gss_cons (gs_asg 5 (GL.ge (gl_lst (ga_cons (ge_tup (ga_cons ge_str (ga_cons ge_str (ga_cons (ge_cb (call_reprZ hG hr.units) sc_reprZ (by rfl) b_repr (by decide +kernel) (ga_cons (ge_var 11) ga_nil)) ga_nil)))) (ga_cons (ge_tup (ga_cons ge_str (ga_cons ge_str (ga_cons (ge_cb (call_reprZ hG hr.units) sc_reprZ (by rfl) b_repr (by decide +kernel) (ga_cons (ge_var 13) ga_nil)) ga_nil)))) (ga_cons (ge_tup (ga_cons ge_str (ga_cons ge_str ga_nil))) (ga_cons (ge_tup (ga_cons ge_str (ga_cons ge_str (ga_cons (ge_cb (call_reprZ hG hr.units) sc_reprZ (by rfl) b_repr (by decide +kernel) (ga_cons (ge_var 6) ga_nil)) ga_nil)))) ga_nil)))))) sc__law_right.nd) (gss_cons (gs_asg 5 (ge_op op_addA sop_add (ge_var 5) (GL.ge (gl_lst (ga_cons (ge_var 3) (ga_cons (ge_tup (ga_cons ge_str (ga_cons ge_str ga_nil))) (ga_cons (ge_var 3) (ga_cons (ge_var 2) (ga_cons (ge_tup (ga_cons ge_str (ga_cons ge_str ga_nil))) (ga_cons (ge_var 2) (ga_cons (ge_tup (ga_cons ge_str (ga_cons ge_str ga_nil))) (ga_cons (ge_var 4) (ga_cons (ge_var 4) ga_nil)))))))))))) sc__law_right.nd) (gss_one (gs_ret (ge_cmp (op_eqD hr.units) sop_eq (ge_var 1) (ge_op op_addA sop_add (ge_var 5) (GL.ge (gl_lst (ga_cons (ge_var 4) (ga_cons (ge_tup (ga_cons ge_str (ga_cons ge_str ga_nil))) (ga_cons (ge_tup (ga_cons ge_str (ga_cons ge_str ga_nil))) ga_nil)))))))))))))))))))))))))))))))))))))))

abbrev N_law : List Str := ["script", "spot", "told"]
theorem sc_law : FnScope N_law ["script"] (defScope s_law) := ⟨rfl, rfl, rfl, by decide +kernel, rfl, by decide +kernel, by decide +kernel⟩
def w_law (cN : Str → Addr) (em : Value → Value → Option Bool) : WF := wDef 1 2 (wSeq (wFor (wiRng1 (waCons (wCB max2T (waCons (wC (.int 1)) (waCons (wCB min2T (waCons (wC (.int 4)) (waCons (wCB lenT (waCons (wVar 0) waNil)) waNil))) waNil))) waNil)) (Tg.name 1) (wIf (wNot (wTru (wOnDice preDice (w__law_right cN em) (waCons (wVar 0) (waCons (wVar 1) waNil))))) (wRet (wC (.bl false))) wNext)) (wSeq (wOwn (wLst (waCons (wMetA em 2 (hd__law_met cN) (wTup (waCons (wC (.str "fine")) waNil)) (xMeth (cN "Reader") "with_read" (wx_Reader_with_read cN) [] (wMakeP (cN "Reader") [] w_Reader___init__ (waCons (wC (.int 5)) (waCons (wC (.int 6)) waNil))) (waCons (wTup (waCons (wC (.str "key")) (waCons (wC (.str "a")) waNil))) (waCons (wOp powT (wC (.int 10)) (wC (.int 6))) waNil)))) waNil)) 2) (wSeq (wApp 2 (wMetA em 2 (hd__law_met cN) (wTup (waCons (wC (.str "fine")) waNil)) (xMeth (cN "Reader") "answered" (wx_Reader_answered cN) [] (wMakeP (cN "Reader") [] w_Reader___init__ (waCons (wC (.int 0)) (waCons (wC (.int 1)) waNil))) (waCons (wOp powT (wC (.int 10)) (wC (.int 59))) (waCons (wTup (waCons (wC (.int 0)) (waCons (wC (.int 0)) waNil))) waNil))))) (wSeq (wApp 2 (wMetA em 2 (hd__law_met cN) (wTup (waCons (wC (.str "fine")) waNil)) (xCall (wx_open_reads cN) [] (waCons (wTup waNil) waNil)))) (wFrz 2 (wRet (wAndV (wOp eqT (wVar 2) (wOp mulT (wL (wLst (waCons (wTup (waCons (wC (.str "fine")) waNil)) waNil))) (wC (.int 3)))) (wOp eqT (wC (.int 1000000)) (wOp powT (wC (.int 10)) (wC (.int 6)))))))))))
theorem ok_law {fd : FuncData} (F : FunD K "law" "law" (defArgs s_law) (defBody s_law) (defScope s_law) [] [] (He.fAd K ("law", none)) fd) (TB : LamX.TabB base mg (He.codeOf K ("law", none)) (He.tabOf K (He.codeOf K ("law", none)))) (hT : (He.tabOf K (He.codeOf K ("law", none)), ("law.<locals>." ++ "<lambda>" : Str)) ∈ Tabl.T) (MET_law_met : Met_law_met K mg) (b_range : mg "range" = none) (b_max : mg "max" = none) (b_min : mg "min" = none) (b_len : mg "len" = none) (D__law_right : CallG P w K mg base 50 "_law_right" (w__law_right (He.ga K) (PySem.W.exmOne K)) []) (D__law_dice : DiceD P w K mg base 1 "_law_dice" preDice) (cl_Reader : Cls K (He.ga K "Reader")) (MX_Reader_with_read_2 : MethX P w K mg base 46 (He.ga K "Reader") "with_read" (wx_Reader_with_read (He.ga K)) []) (MP_Reader_2 : MakeP P w K mg base 4 "Reader" (He.ga K "Reader") [] w_Reader___init__) (mg_Refused : mg "Refused" = some (.ref (He.ga K "Refused"))) (XF_Refused : XfD K (He.ga K "Refused") "reason") (mg_InvalidNumber : mg "InvalidNumber" = some (.ref (He.ga K "InvalidNumber"))) (b_repr : mg "repr" = none) (XF_InvalidNumber : XfD K (He.ga K "InvalidNumber") "given") (mg_InvalidQuestion : mg "InvalidQuestion" = some (.ref (He.ga K "InvalidQuestion"))) (mg_InvalidOperation : mg "InvalidOperation" = some (.ref (He.ga K "InvalidOperation"))) (mg_InvalidInstant : mg "InvalidInstant" = some (.ref (He.ga K "InvalidInstant"))) (mg_InvalidDeed : mg "InvalidDeed" = some (.ref (He.ga K "InvalidDeed"))) (MX_Reader_answered_2 : MethX P w K mg base 7 (He.ga K "Reader") "answered" (wx_Reader_answered (He.ga K)) []) (DX_open_reads : CallX P w K mg base 3 "open_reads" (wx_open_reads (He.ga K)) []) (c_MOST_AGE : ∃ t, mg "MOST_AGE" = some (.int 1000000 t)) : FnG P w K mg base CX0 51 (He.fAd K ("law", none)) fd ["script"] (spT K (w_law (He.ga K) (PySem.W.exmOne K))) :=
  by
  obtain ⟨g_law_met, fd_law_met, Fm_law_met, hm_law_met, hk_law_met, hb_law_met⟩ := MET_law_met
  refine fn_treeLG F sc_law rfl rfl fun A outer s H E hr hG => ?_
  exact (gss_cons (gs_for (g := (Tg.name 1)) PassesOwn.never (by rfl) (gi_rng1 (by rfl) b_range (ga_cons (ge_cb (call_max2 (by rfl)) sc_max2 (by rfl) b_max (by decide +kernel) (ga_cons ge_int (ga_cons (ge_cb (call_min2 (by rfl)) sc_min2 (by rfl) b_min (by decide +kernel) (ga_cons ge_int (ga_cons (ge_cb call_len sc_len (by rfl) b_len (by decide +kernel) (ga_cons (ge_var 0) ga_nil)) ga_nil))) ga_nil))) ga_nil)) (pg_name (i := 1) sc_law.nd (by rfl) (by first | exact Or.inl rfl | exact Or.inr rfl) (by first | exact .inl rfl | exact .inr rfl)) (gss_one (gs_if (gt_not (gt_tru (ge_onDiceG D__law_right D__law_dice hG hr (by rfl) (by rfl) (ga_cons (ge_var 0) (ga_cons (ge_var 1) ga_nil))))) (gss_one (gs_ret ge_bl)) gss_nil))) (gss_cons (gs_own 2 (gl_lst (ga_cons (ge_metA (k := 47) (Ng := N__law_met) (a := "call") (l := hd__law_met (He.ga K)) hG Fm_law_met (MetHA.bare (by rfl) mg_InvalidDeed (fun Z a oe cls d pn hZ hz hf => (ge_tup (ga_cons ge_str (ga_cons ge_str ga_nil)))) (MetHA.bare (by rfl) mg_InvalidInstant (fun Z a oe cls d pn hZ hz hf => (ge_tup (ga_cons ge_str (ga_cons ge_str ga_nil)))) (MetHA.bare (by rfl) mg_InvalidOperation (fun Z a oe cls d pn hZ hz hf => (ge_tup (ga_cons ge_str (ga_cons ge_str ga_nil)))) (MetHA.bare (by rfl) mg_InvalidQuestion (fun Z a oe cls d pn hZ hz hf => (ge_tup (ga_cons ge_str (ga_cons ge_str ga_nil)))) (MetHA.as (by rfl) mg_InvalidNumber rfl rfl (fun Z a oe cls d pn hZ hz hf => (ge_tup (ga_cons ge_str (ga_cons ge_str (ga_cons (ge_cb (call_reprZ hZ.ng hZ.un) sc_reprZ (hZ.gl rfl) (hZ.mg0 b_repr) (by decide +kernel) (ga_cons (ge_xf 1 hZ XF_InvalidNumber hz hf rfl (.inl rfl)) ga_nil)) ga_nil))))) (MetHA.as (by rfl) mg_Refused rfl rfl (fun Z a oe cls d pn hZ hz hf => (ge_tup (ga_cons ge_str (ga_cons ge_str (ga_cons (ge_xf 1 hZ XF_Refused hz hf rfl (.inl rfl)) ga_nil))))) MetHA.nil)))))) (fun _ => (ge_tup (ga_cons ge_str ga_nil))) (by rfl) hm_law_met hk_law_met hb_law_met sc__law_met rfl (.inl rfl) (fun _ => rfl) TB rfl hT (hr.mono (by decide)) (lamS_by (sc := defScope s_law) (by decide +kernel)) rfl (fun _ _ _ _ _ => rfl) fun _ _ _ _ _ _ _ hr tk => (gxe_methX tk MX_Reader_with_read_2 cl_Reader hr CTs.nil (ge_makeP MP_Reader_2 hr (by rfl) (ga_cons ge_int (ga_cons ge_int ga_nil))) (ga_cons (ge_tup (ga_cons ge_str (ga_cons ge_str ga_nil))) (ga_cons (ge_op op_powW sop_pow ge_int ge_int) ga_nil)))) ga_nil)) sc_law.nd) (gss_cons (gs_app 2 (ge_metA (k := 8) (Ng := N__law_met) (a := "call") (l := hd__law_met (He.ga K)) hG Fm_law_met (MetHA.bare (by rfl) mg_InvalidDeed (fun Z a oe cls d pn hZ hz hf => (ge_tup (ga_cons ge_str (ga_cons ge_str ga_nil)))) (MetHA.bare (by rfl) mg_InvalidInstant (fun Z a oe cls d pn hZ hz hf => (ge_tup (ga_cons ge_str (ga_cons ge_str ga_nil)))) (MetHA.bare (by rfl) mg_InvalidOperation (fun Z a oe cls d pn hZ hz hf => (ge_tup (ga_cons ge_str (ga_cons ge_str ga_nil)))) (MetHA.bare (by rfl) mg_InvalidQuestion (fun Z a oe cls d pn hZ hz hf => (ge_tup (ga_cons ge_str (ga_cons ge_str ga_nil)))) (MetHA.as (by rfl) mg_InvalidNumber rfl rfl (fun Z a oe cls d pn hZ hz hf => (ge_tup (ga_cons ge_str (ga_cons ge_str (ga_cons (ge_cb (call_reprZ hZ.ng hZ.un) sc_reprZ (hZ.gl rfl) (hZ.mg0 b_repr) (by decide +kernel) (ga_cons (ge_xf 1 hZ XF_InvalidNumber hz hf rfl (.inl rfl)) ga_nil)) ga_nil))))) (MetHA.as (by rfl) mg_Refused rfl rfl (fun Z a oe cls d pn hZ hz hf => (ge_tup (ga_cons ge_str (ga_cons ge_str (ga_cons (ge_xf 1 hZ XF_Refused hz hf rfl (.inl rfl)) ga_nil))))) MetHA.nil)))))) (fun _ => (ge_tup (ga_cons ge_str ga_nil))) (by rfl) hm_law_met hk_law_met hb_law_met sc__law_met rfl (.inl rfl) (fun _ => rfl) TB rfl hT (hr.mono (by decide)) (lamS_by (sc := defScope s_law) (by decide +kernel)) rfl (fun _ _ _ _ _ => rfl) fun _ _ _ _ _ _ _ hr tk => (gxe_methX tk MX_Reader_answered_2 cl_Reader hr CTs.nil (ge_makeP MP_Reader_2 hr (by rfl) (ga_cons ge_int (ga_cons ge_int ga_nil))) (ga_cons (ge_op op_powW sop_pow ge_int ge_int) (ga_cons (ge_tup (ga_cons ge_int (ga_cons ge_int ga_nil))) ga_nil))))) (gss_cons (gs_app 2 (ge_metA (k := 4) (Ng := N__law_met) (a := "call") (l := hd__law_met (He.ga K)) hG Fm_law_met (MetHA.bare (by rfl) mg_InvalidDeed (fun Z a oe cls d pn hZ hz hf => (ge_tup (ga_cons ge_str (ga_cons ge_str ga_nil)))) (MetHA.bare (by rfl) mg_InvalidInstant (fun Z a oe cls d pn hZ hz hf => (ge_tup (ga_cons ge_str (ga_cons ge_str ga_nil)))) (MetHA.bare (by rfl) mg_InvalidOperation (fun Z a oe cls d pn hZ hz hf => (ge_tup (ga_cons ge_str (ga_cons ge_str ga_nil)))) (MetHA.bare (by rfl) mg_InvalidQuestion (fun Z a oe cls d pn hZ hz hf => (ge_tup (ga_cons ge_str (ga_cons ge_str ga_nil)))) (MetHA.as (by rfl) mg_InvalidNumber rfl rfl (fun Z a oe cls d pn hZ hz hf => (ge_tup (ga_cons ge_str (ga_cons ge_str (ga_cons (ge_cb (call_reprZ hZ.ng hZ.un) sc_reprZ (hZ.gl rfl) (hZ.mg0 b_repr) (by decide +kernel) (ga_cons (ge_xf 1 hZ XF_InvalidNumber hz hf rfl (.inl rfl)) ga_nil)) ga_nil))))) (MetHA.as (by rfl) mg_Refused rfl rfl (fun Z a oe cls d pn hZ hz hf => (ge_tup (ga_cons ge_str (ga_cons ge_str (ga_cons (ge_xf 1 hZ XF_Refused hz hf rfl (.inl rfl)) ga_nil))))) MetHA.nil)))))) (fun _ => (ge_tup (ga_cons ge_str ga_nil))) (by rfl) hm_law_met hk_law_met hb_law_met sc__law_met rfl (.inl rfl) (fun _ => rfl) TB rfl hT (hr.mono (by decide)) (lamS_by (sc := defScope s_law) (by decide +kernel)) rfl (fun _ _ _ _ _ => rfl) fun _ _ _ _ _ _ _ hr tk => (gxe_callX tk DX_open_reads hr (by rfl) CTs.nil (ga_cons (ge_tup ga_nil) ga_nil)))) (gss_frz 2 (gss_one (gs_ret (ge_and (ge_cmp (op_eqD hr.units) sop_eq (ge_var 2) (ge_op op_mulA sop_mul (GL.ge (gl_lst (ga_cons (ge_tup (ga_cons ge_str ga_nil)) ga_nil))) ge_int)) (ge_one (ge_cmp (op_eqD hr.units) sop_eq (ge_globI (by rfl) c_MOST_AGE) (ge_op op_powW sop_pow ge_int ge_int)))))))))))
end
end My


set_option linter.all false
set_option maxRecDepth 100000
set_option maxHeartbeats 0
namespace My
open PySem PySem.Spec PyProof.Rows L2 Tr
variable [Tabl]
theorem st_need_number {P : Sl → Prop} {x0 x1 x2 : Sl} (h : (wIf (wNot (wTru (wCall w_is_within [] (waCons (wVar 0) (waCons (wVar 1) (waCons (wVar 2) waNil)))))) wNever wNext) ⟨fun _ => P (.val .non), retK P, fun _ => False, fun _ => False⟩ [x0, x1, x2]) : w_need_number [x0, x1, x2] P := ⟨rfl, h⟩
theorem st_Reader___init__ {q : List Str → List T → Prop} {x0 x1 : Sl} (h : (wnSeq (wnDrop (wCall w_need_number [] (waCons (wVar 1) (waCons (wC (.int 0)) (waCons (wC (.int 5)) waNil))))) (wnSeq (wnDrop (wCall w_need_number [] (waCons (wVar 2) (waCons (wC (.int 1)) (waCons (wC (.int 6)) waNil))))) (wnSeq (wnSet "number" (wVar 1)) (wnSeq (wnSet "place" (wVar 2)) (wnSeq (wnSet "read_number" (wC (.int 0))) (wnSeq (wnSet "write_number" (wC (.int 0))) (wnSeq (wnSet "open_read" (wC .non)) (wnSeq (wnSet "open_write" (wC .non)) (wnSet "floor" (wTup (waCons (wC (.int 0)) (waCons (wC (.int 0)) waNil)))))))))))) q [.any, x0, x1] [] []) : w_Reader___init__ [x0, x1] q := ⟨rfl, h⟩
theorem st_are_ascending {P : Sl → Prop} {x0 : Sl} (h : (wRet (wCB allT (waCons (wL (wLc (wiZipA (waCons (wVar 0) (waCons (wSl (wVar 0) (woSome (wC (.int 1))) woNone) waNil))) (Tg.names [1, 2]) wYes (wOp ltT (wVar 1) (wVar 2)) [1, 2])) waNil))) ⟨fun _ => P (.val .non), retK P, fun _ => False, fun _ => False⟩ [x0, .any, .any]) : w_are_ascending [x0] P := ⟨rfl, h⟩
theorem st_is_key {P : Sl → Prop} {x0 : Sl} (h : (wSeq (wIf (wOr (wNot (wTru (wCB isiT (waCons (wVar 0) (waCons (wC (.ty "str")) waNil))))) (wNot (wB (wChain leT leT (wC (.int 1)) (wCB lenT (waCons (wVar 0) waNil)) (wC (.int 8)))))) (wRet (wC (.bl false))) wNext) (wRet (wCB allT (waCons (wL (wLc (wiStr (wVar 0)) (Tg.name 1) wYes (wOp (inSg false) (wVar 1) (wC (.str "abcdefghijklmnopqrstuvwxyz"))) [1])) waNil)))) ⟨fun _ => P (.val .non), retK P, fun _ => False, fun _ => False⟩ [x0, .any]) : w_is_key [x0] P := ⟨rfl, h⟩
theorem st_is_value {P : Sl → Prop} {x0 : Sl} (h : (wRet (wCall w_is_within [] (waCons (wVar 0) (waCons (wUn negT (wC (.int 999999999999))) (waCons (wC (.int 999999999999)) waNil))))) ⟨fun _ => P (.val .non), retK P, fun _ => False, fun _ => False⟩ [x0]) : w_is_value [x0] P := ⟨rfl, h⟩
theorem st_is_value_or_none {P : Sl → Prop} {x0 : Sl} (h : (wRet (wOrV (wIsN false (wVar 0)) (wCall w_is_value [] (waCons (wVar 0) waNil)))) ⟨fun _ => P (.val .non), retK P, fun _ => False, fun _ => False⟩ [x0]) : w_is_value_or_none [x0] P := ⟨rfl, h⟩
theorem st__is_setting {P : Sl → Prop} {x0 : Sl} (h : (wSeq (wIf (wOr (wNot (wTru (wCB isiT (waCons (wVar 0) (waCons (wC (.ty "tuple")) waNil))))) (wB (wOp neT (wCB lenT (waCons (wVar 0) waNil)) (wC (.int 2))))) (wRet (wC (.bl false))) wNext) (wRet (wAndV (wCall w_is_key [] (waCons (wOp ixT (wVar 0) (wC (.int 0))) waNil)) (wCall w_is_value_or_none [] (waCons (wOp ixT (wVar 0) (wC (.int 1))) waNil))))) ⟨fun _ => P (.val .non), retK P, fun _ => False, fun _ => False⟩ [x0]) : w__is_setting [x0] P := ⟨rfl, h⟩
theorem st_is_deed {P : Sl → Prop} {x0 : Sl} (h : (wSeq (wIf (wOr (wNot (wTru (wCB isiT (waCons (wVar 0) (waCons (wC (.ty "tuple")) waNil))))) (wNot (wB (wChain leT leT (wC (.int 1)) (wCB lenT (waCons (wVar 0) waNil)) (wC (.int 6)))))) (wRet (wC (.bl false))) wNext) (wSeq (wIf (wNot (wTru (wCB allT (waCons (wL (wLc (wiSeq (wVar 0)) (Tg.name 3) wYes (wCall w__is_setting [] (waCons (wVar 3) waNil)) [3])) waNil)))) (wRet (wC (.bl false))) wNext) (wRet (wCall w_are_ascending [] (waCons (wL (wLc (wiSeq (wVar 0)) (Tg.names [1, 2]) wYes (wVar 1) [1, 2])) waNil))))) ⟨fun _ => P (.val .non), retK P, fun _ => False, fun _ => False⟩ [x0, .any, .any, .any]) : w_is_deed [x0] P := ⟨rfl, h⟩
theorem st_need_deed {P : Sl → Prop} {x0 : Sl} (h : (wIf (wNot (wTru (wCall w_is_deed [] (waCons (wVar 0) waNil)))) wNever wNext) ⟨fun _ => P (.val .non), retK P, fun _ => False, fun _ => False⟩ [x0]) : w_need_deed [x0] P := ⟨rfl, h⟩
theorem st_Reader_with_write {cN : Str → Addr} {P : Sl → Prop} {x0 x1 : Sl} (h : (wSeq (wDrop (wCall w_need_deed [] (waCons (wVar 1) waNil))) (wSeq (wIf (wB (wIsN true (wFld (cN "Reader") "open_write" (wVar 0)))) wNever wNext) (wTwB 2 (cN "Reader") "_twin" (w_Reader__twin cN) [] (wVar 0) (cN "Reader") (wnSeq (wnAug "write_number" (wC (.int 1))) (wnSeq (wnPutS 2 (cN "Reader") "open_write" (wTup (waCons (wFld (cN "Reader") "write_number" (wVar 2)) (waCons (wVar 1) waNil)))) wnNext))))) ⟨fun _ => P (.val .non), retK P, fun _ => False, fun _ => False⟩ [x0, x1, .any]) : w_Reader_with_write cN [x0, x1] P := ⟨rfl, h⟩
theorem st__size_of_leaf {P : Sl → Prop} {x0 : Sl} (h : (wSeq (wIf (wB (wOp neT (wCB lenT (waCons (wVar 0) waNil)) (wC (.int 2)))) (wRet (wC .non)) wNext) (wSeq (wAsgT (wVar 0) [1, 2]) (wSeq (wIf (wB (wOp eqT (wVar 1) (wC (.str "number")))) (wRet (wIfE (wTru (wCall w_is_within [] (waCons (wVar 2) (waCons (wUn negT (wC (.int 999999999999))) (waCons (wC (.int 999999999999)) waNil))))) (wC (.int 1)) (wC .non))) wNext) (wSeq (wIf (wB (wOp (isIn false) (wVar 1) (wTup (waCons (wC (.str "key")) (waCons (wC (.str "there")) waNil))))) (wRet (wIfE (wTru (wCall w_is_key [] (waCons (wVar 2) waNil))) (wC (.int 1)) (wC .non))) wNext) (wSeq (wIf (wB (wOp (isIn false) (wVar 1) (wTup (waCons (wC (.str "sum")) (waCons (wC (.str "many")) waNil))))) (wRet (wIfE (wTru (wCall w__is_row_of_keys [] (waCons (wVar 2) waNil))) (wOp addT (wC (.int 1)) (wCB lenT (waCons (wVar 2) waNil))) (wC .non))) wNext) (wRet (wC .non))))))) ⟨fun _ => P (.val .non), retK P, fun _ => False, fun _ => False⟩ [x0, .any, .any]) : w__size_of_leaf [x0] P := ⟨rfl, h⟩
theorem st__size_of_sides {n : Nat} {P : Sl → Prop} {x0 x1 : Sl} (h : (wSeq (wIf (wB (wOp neT (wCB lenT (waCons (wVar 0) waNil)) (wOp addT (wKD [("plus", (.int 2)), ("minus", (.int 2)), ("times", (.int 2)), ("least", (.int 2)), ("most", (.int 2)), ("less", (.int 2)), ("same", (.int 2)), ("both", (.int 2)), ("any", (.int 2)), ("if", (.int 3))] (wOp ixT (wVar 0) (wC (.int 0)))) (wC (.int 1))))) (wRet (wC .non)) wNext) (wSeq (wAsg (wC (.int 1)) 2) (wSeq (wFor (wiSeq (wSl (wVar 0) (woSome (wC (.int 1))) woNone)) (Tg.name 3) (wSeq (wAsg (wCall (w_size_within n) [] (waCons (wVar 3) (waCons (wOp subT (wVar 1) (wVar 2)) waNil))) 4) (wSeq (wIf (wB (wIsN false (wVar 4))) (wRet (wC .non)) wNext) (wAug (fun i j => i + j) 2 (wVar 4))))) (wRet (wVar 2))))) ⟨fun _ => P (.val .non), retK P, fun _ => False, fun _ => False⟩ [x0, x1, .any, .any, .any]) : w__size_of_sides (n + 1) [x0, x1] P := ⟨rfl, h⟩
theorem st_size_within {n : Nat} {P : Sl → Prop} {x0 x1 : Sl} (h : (wSeq (wIf (wOr (wNot (wTru (wCB isiT (waCons (wVar 0) (waCons (wC (.ty "tuple")) waNil))))) (wOr (wNot (wTru (wVar 0))) (wNot (wTru (wCB isiT (waCons (wOp ixT (wVar 0) (wC (.int 0))) (waCons (wC (.ty "str")) waNil))))))) (wRet (wC .non)) wNext) (wSeq (wIf (wB (wKIn false ["plus", "minus", "times", "least", "most", "less", "same", "both", "any", "if"] (wOp ixT (wVar 0) (wC (.int 0))))) (wAsg (wCall (w__size_of_sides n) [] (waCons (wVar 0) (waCons (wVar 1) waNil))) 2) (wAsg (wCall w__size_of_leaf [] (waCons (wVar 0) waNil)) 2)) (wRet (wIfE (wOr (wB (wIsN false (wVar 2))) (wB (wOp gtT (wVar 2) (wVar 1)))) (wC .non) (wVar 2))))) ⟨fun _ => P (.val .non), retK P, fun _ => False, fun _ => False⟩ [x0, x1, .any]) : w_size_within (n + 1) [x0, x1] P := ⟨rfl, h⟩
theorem st_is_question {P : Sl → Prop} {x0 : Sl} (h : (wRet (wIsN true (wCall (w_size_within 40) [] (waCons (wVar 0) (waCons (wC (.int 40)) waNil))))) ⟨fun _ => P (.val .non), retK P, fun _ => False, fun _ => False⟩ [x0]) : w_is_question [x0] P := ⟨rfl, h⟩
theorem st_need_question {P : Sl → Prop} {x0 : Sl} (h : (wIf (wNot (wTru (wCall w_is_question [] (waCons (wVar 0) waNil)))) wNever wNext) ⟨fun _ => P (.val .non), retK P, fun _ => False, fun _ => False⟩ [x0]) : w_need_question [x0] P := ⟨rfl, h⟩
theorem st_Reader_with_read {cN : Str → Addr} {P : Sl → Prop} {x0 x1 x2 : Sl} (h : (wSeq (wDrop (wCall w_need_question [] (waCons (wVar 1) waNil))) (wSeq (wDrop (wCall w_need_number [] (waCons (wVar 2) (waCons (wC (.int 0)) (waCons (wC (.int 1000000)) waNil))))) (wSeq (wIf (wB (wIsN true (wFld (cN "Reader") "open_read" (wVar 0)))) wNever wNext) (wTwB 3 (cN "Reader") "_twin" (w_Reader__twin cN) [] (wVar 0) (cN "Reader") (wnSeq (wnAug "read_number" (wC (.int 1))) (wnSeq (wnPutS 3 (cN "Reader") "open_read" (wTup (waCons (wFld (cN "Reader") "read_number" (wVar 3)) (waCons (wVar 1) (waCons (wVar 2) waNil))))) wnNext)))))) ⟨fun _ => P (.val .non), retK P, fun _ => False, fun _ => False⟩ [x0, x1, x2, .any]) : w_Reader_with_read cN [x0, x1, x2] P := ⟨rfl, h⟩
theorem st_is_instant {P : Sl → Prop} {x0 : Sl} (h : (wSeq (wIf (wOr (wNot (wTru (wCB isiT (waCons (wVar 0) (waCons (wC (.ty "tuple")) waNil))))) (wB (wOp neT (wCB lenT (waCons (wVar 0) waNil)) (wC (.int 2))))) (wRet (wC (.bl false))) wNext) (wRet (wAndV (wCall w_is_within [.int 999999999999999999999999999999999999999999999999999999999999] (waCons (wOp ixT (wVar 0) (wC (.int 0))) (waCons (wC (.int 0)) waNil))) (wCall w_is_within [.int 999999999999999999999999999999999999999999999999999999999999] (waCons (wOp ixT (wVar 0) (wC (.int 1))) (waCons (wC (.int 0)) waNil)))))) ⟨fun _ => P (.val .non), retK P, fun _ => False, fun _ => False⟩ [x0]) : w_is_instant [x0] P := ⟨rfl, h⟩
theorem st_Reader_dropped {cN : Str → Addr} {P : Sl → Prop} {x0 : Sl} (h : (wSeq (wIf (wB (wIsN false (wFld (cN "Reader") "open_read" (wVar 0)))) wNever wNext) (wTwB 1 (cN "Reader") "_twin" (w_Reader__twin cN) [] (wVar 0) (cN "Reader") (wnSeq (wnPut "open_read" (wC .non)) wnNext))) ⟨fun _ => P (.val .non), retK P, fun _ => False, fun _ => False⟩ [x0, .any]) : w_Reader_dropped cN [x0] P := ⟨rfl, h⟩
theorem st_Reader_fallen {cN : Str → Addr} {P : Sl → Prop} {x0 : Sl} (h : (wTwB 1 (cN "Reader") "_twin" (w_Reader__twin cN) [] (wVar 0) (cN "Reader") (wnSeq (wnPut "open_read" (wC .non)) (wnSeq (wnPut "floor" (wTup (waCons (wOp ixT (wFld (cN "Reader") "floor" (wVar 0)) (wC (.int 0))) (waCons (wC (.int 0)) waNil)))) wnNext))) ⟨fun _ => P (.val .non), retK P, fun _ => False, fun _ => False⟩ [x0, .any]) : w_Reader_fallen cN [x0] P := ⟨rfl, h⟩
theorem stx_need_number {cN : Str → Addr} {r : RX} {P : Sl → Prop} {x0 x1 x2 : Sl} (h : (xIf (wNot (wTru (wCall w_is_within [] (waCons (wVar 0) (waCons (wVar 1) (waCons (wVar 2) waNil)))))) (xRaiseF (cN "InvalidNumber") "given" (waCons (wVar 0) waNil)) xN) (fun c o _ => r c o) ⟨fun _ => P (.val .non), retK P, fun _ => False, fun _ => False⟩ [x0, x1, x2]) : wx_need_number cN r [x0, x1, x2] P := ⟨rfl, h⟩
theorem stx_Reader___init__ {cN : Str → Addr} {r : RX} {q : List Str → List T → Prop} {x0 x1 : Sl} (h : (xnSeq (xnDrop (xCall (wx_need_number cN) [] (waCons (wVar 1) (waCons (wC (.int 0)) (waCons (wC (.int 5)) waNil))))) (xnSeq (xnDrop (xCall (wx_need_number cN) [] (waCons (wVar 2) (waCons (wC (.int 1)) (waCons (wC (.int 6)) waNil))))) (xnL (wnSeq (wnSet "number" (wVar 1)) (wnSeq (wnSet "place" (wVar 2)) (wnSeq (wnSet "read_number" (wC (.int 0))) (wnSeq (wnSet "write_number" (wC (.int 0))) (wnSeq (wnSet "open_read" (wC .non)) (wnSeq (wnSet "open_write" (wC .non)) (wnSet "floor" (wTup (waCons (wC (.int 0)) (waCons (wC (.int 0)) waNil))))))))))))) r q [.any, x0, x1] [] []) : wx_Reader___init__ cN r [x0, x1] q := ⟨rfl, h⟩
theorem stx_need_deed {cN : Str → Addr} {r : RX} {P : Sl → Prop} {x0 : Sl} (h : (xIf (wNot (wTru (wCall w_is_deed [] (waCons (wVar 0) waNil)))) (xRaise (cN "InvalidDeed")) xN) (fun c o _ => r c o) ⟨fun _ => P (.val .non), retK P, fun _ => False, fun _ => False⟩ [x0]) : wx_need_deed cN r [x0] P := ⟨rfl, h⟩
theorem stx_Reader_with_write {cN : Str → Addr} {r : RX} {P : Sl → Prop} {x0 x1 : Sl} (h : (xSeq (xDrop (xCall (wx_need_deed cN) [] (waCons (wVar 1) waNil))) (xSeq (xIf (wB (wIsN true (wFld (cN "Reader") "open_write" (wVar 0)))) (xRaiseF (cN "Refused") "reason" (waCons (wTup (waCons (wC (.str "open")) waNil)) waNil)) xN) (xL (wTwB 2 (cN "Reader") "_twin" (w_Reader__twin cN) [] (wVar 0) (cN "Reader") (wnSeq (wnAug "write_number" (wC (.int 1))) (wnSeq (wnPutS 2 (cN "Reader") "open_write" (wTup (waCons (wFld (cN "Reader") "write_number" (wVar 2)) (waCons (wVar 1) waNil)))) wnNext)))))) (fun c o _ => r c o) ⟨fun _ => P (.val .non), retK P, fun _ => False, fun _ => False⟩ [x0, x1, .any]) : wx_Reader_with_write cN r [x0, x1] P := ⟨rfl, h⟩
theorem stx_need_question {cN : Str → Addr} {r : RX} {P : Sl → Prop} {x0 : Sl} (h : (xIf (wNot (wTru (wCall w_is_question [] (waCons (wVar 0) waNil)))) (xRaise (cN "InvalidQuestion")) xN) (fun c o _ => r c o) ⟨fun _ => P (.val .non), retK P, fun _ => False, fun _ => False⟩ [x0]) : wx_need_question cN r [x0] P := ⟨rfl, h⟩
theorem stx_Reader_with_read {cN : Str → Addr} {r : RX} {P : Sl → Prop} {x0 x1 x2 : Sl} (h : (xSeq (xDrop (xCall (wx_need_question cN) [] (waCons (wVar 1) waNil))) (xSeq (xDrop (xCall (wx_need_number cN) [] (waCons (wVar 2) (waCons (wC (.int 0)) (waCons (wC (.int 1000000)) waNil))))) (xSeq (xIf (wB (wIsN true (wFld (cN "Reader") "open_read" (wVar 0)))) (xRaiseF (cN "Refused") "reason" (waCons (wTup (waCons (wC (.str "open")) waNil)) waNil)) xN) (xL (wTwB 3 (cN "Reader") "_twin" (w_Reader__twin cN) [] (wVar 0) (cN "Reader") (wnSeq (wnAug "read_number" (wC (.int 1))) (wnSeq (wnPutS 3 (cN "Reader") "open_read" (wTup (waCons (wFld (cN "Reader") "read_number" (wVar 3)) (waCons (wVar 1) (waCons (wVar 2) waNil))))) wnNext))))))) (fun c o _ => r c o) ⟨fun _ => P (.val .non), retK P, fun _ => False, fun _ => False⟩ [x0, x1, x2, .any]) : wx_Reader_with_read cN r [x0, x1, x2] P := ⟨rfl, h⟩
theorem stx__need_readers {cN : Str → Addr} {r : RX} {P : Sl → Prop} {x0 : Sl} (h : (xSeq (xIf (wOr (wNot (wTru (wIsX (cN "Reader") "tuple" (wVar 0)))) (wNot (wTru (wCB allT (waCons (wL (wLc (wiSeq (wVar 0)) (Tg.name 1) wYes (wIsI (cN "Reader") (wVar 1)) [1])) waNil))))) (xRaise (cN "InvalidOperation")) xN) (xIf (wNot (wTru (wCall w_are_ascending [] (waCons (wL (wLc (wiSeq (wVar 0)) (Tg.name 1) wYes (wFld (cN "Reader") "number" (wVar 1)) [1])) waNil)))) (xRaise (cN "InvalidOperation")) xN)) (fun c o _ => r c o) ⟨fun _ => P (.val .non), retK P, fun _ => False, fun _ => False⟩ [x0, .any]) : wx__need_readers cN r [x0] P := ⟨rfl, h⟩
theorem stx_open_reads {cN : Str → Addr} {r : RX} {P : Sl → Prop} {x0 : Sl} (h : (xSeq (xDrop (xCall (wx__need_readers cN) [] (waCons (wVar 0) waNil))) (xL (wRet (wCB tupleT (waCons (wL (wLc (wiSeq (wVar 0)) (Tg.name 1) (wB (wIsN true (wFld (cN "Reader") "open_read" (wVar 1)))) (wFld (cN "Reader") "number" (wVar 1)) [1])) waNil))))) (fun c o _ => r c o) ⟨fun _ => P (.val .non), retK P, fun _ => False, fun _ => False⟩ [x0, .any]) : wx_open_reads cN r [x0] P := ⟨rfl, h⟩
theorem stx_open_writes {cN : Str → Addr} {r : RX} {P : Sl → Prop} {x0 : Sl} (h : (xSeq (xDrop (xCall (wx__need_readers cN) [] (waCons (wVar 0) waNil))) (xL (wRet (wCB tupleT (waCons (wL (wLc (wiSeq (wVar 0)) (Tg.name 1) (wB (wIsN true (wFld (cN "Reader") "open_write" (wVar 1)))) (wFld (cN "Reader") "number" (wVar 1)) [1])) waNil))))) (fun c o _ => r c o) ⟨fun _ => P (.val .non), retK P, fun _ => False, fun _ => False⟩ [x0, .any]) : wx_open_writes cN r [x0] P := ⟨rfl, h⟩
theorem stx_need_instant {cN : Str → Addr} {r : RX} {P : Sl → Prop} {x0 : Sl} (h : (xIf (wNot (wTru (wCall w_is_instant [] (waCons (wVar 0) waNil)))) (xRaise (cN "InvalidInstant")) xN) (fun c o _ => r c o) ⟨fun _ => P (.val .non), retK P, fun _ => False, fun _ => False⟩ [x0]) : wx_need_instant cN r [x0] P := ⟨rfl, h⟩
theorem stx_Reader_answered {cN : Str → Addr} {r : RX} {P : Sl → Prop} {x0 x1 x2 : Sl} (h : (xSeq (xDrop (xCall (wx_need_number cN) [.int 999999999999999999999999999999999999999999999999999999999999] (waCons (wVar 1) (waCons (wC (.int 1)) waNil)))) (xSeq (xDrop (xCall (wx_need_instant cN) [] (waCons (wVar 2) waNil))) (xL (wSeq (wIf (wOr (wB (wIsN false (wFld (cN "Reader") "open_read" (wVar 0)))) (wB (wOp neT (wOp ixT (wFld (cN "Reader") "open_read" (wVar 0)) (wC (.int 0))) (wVar 1)))) (wRet (wVar 0)) wNext) (wTwB 3 (cN "Reader") "_twin" (w_Reader__twin cN) [] (wVar 0) (cN "Reader") (wnSeq (wnPut "open_read" (wC .non)) (wnSeq (wnPut "floor" (wCall w_joined_floor [] (waCons (wFld (cN "Reader") "floor" (wVar 0)) (waCons (wVar 2) waNil)))) wnNext))))))) (fun c o _ => r c o) ⟨fun _ => P (.val .non), retK P, fun _ => False, fun _ => False⟩ [x0, x1, x2, .any]) : wx_Reader_answered cN r [x0, x1, x2] P := ⟨rfl, h⟩
theorem stx_Reader_heard_done {cN : Str → Addr} {r : RX} {P : Sl → Prop} {x0 x1 x2 : Sl} (h : (xSeq (xDrop (xCall (wx_need_number cN) [.int 999999999999999999999999999999999999999999999999999999999999] (waCons (wVar 1) (waCons (wC (.int 1)) waNil)))) (xSeq (xDrop (xCall (wx_need_instant cN) [] (waCons (wVar 2) waNil))) (xL (wSeq (wIf (wOr (wB (wIsN false (wFld (cN "Reader") "open_write" (wVar 0)))) (wB (wOp neT (wOp ixT (wFld (cN "Reader") "open_write" (wVar 0)) (wC (.int 0))) (wVar 1)))) (wRet (wVar 0)) wNext) (wTwB 3 (cN "Reader") "_twin" (w_Reader__twin cN) [] (wVar 0) (cN "Reader") (wnSeq (wnPut "open_write" (wC .non)) (wnSeq (wnPut "floor" (wCall w_joined_floor [] (waCons (wFld (cN "Reader") "floor" (wVar 0)) (waCons (wVar 2) waNil)))) wnNext))))))) (fun c o _ => r c o) ⟨fun _ => P (.val .non), retK P, fun _ => False, fun _ => False⟩ [x0, x1, x2, .any]) : wx_Reader_heard_done cN r [x0, x1, x2] P := ⟨rfl, h⟩
theorem stx_Reader_dropped {cN : Str → Addr} {r : RX} {P : Sl → Prop} {x0 : Sl} (h : (xSeq (xIf (wB (wIsN false (wFld (cN "Reader") "open_read" (wVar 0)))) (xRaiseF (cN "Refused") "reason" (waCons (wTup (waCons (wC (.str "none")) waNil)) waNil)) xN) (xL (wTwB 1 (cN "Reader") "_twin" (w_Reader__twin cN) [] (wVar 0) (cN "Reader") (wnSeq (wnPut "open_read" (wC .non)) wnNext)))) (fun c o _ => r c o) ⟨fun _ => P (.val .non), retK P, fun _ => False, fun _ => False⟩ [x0, .any]) : wx_Reader_dropped cN r [x0] P := ⟨rfl, h⟩
theorem st__law_right {cN : Str → Addr} {em : Value → Value → Option Bool} {P : Sl → Prop} {x0 : Sl} (h : (wSeq (wAsg (wCall w__law_pick [] (waCons (wVar 0) (waCons (wL (wLst (waCons (wC .non) (waCons (wUn negT (wC (.int 1))) (waCons (wC (.int 6)) (waCons (wC (.bl true)) (waCons (wC (.str "0")) (waCons (wTup (waCons (wC (.int 0)) waNil)) (waCons (wOp powT (wC (.int 10)) (wC (.int 60))) waNil))))))))) waNil))) 11) (wSeq (wAsg (wCall w__law_pick [] (waCons (wVar 0) (waCons (wL (wLst (waCons (wC .non) (waCons (wC (.int 0)) (waCons (wC (.int 7)) (waCons (wC (.bl true)) (waCons (wC (.str "1")) (waCons (wTup (waCons (wC (.int 1)) waNil)) (waCons (wOp powT (wC (.int 10)) (wC (.int 60))) waNil))))))))) waNil))) 13) (wSeq (wAsg (wCall w__law_pick [] (waCons (wVar 0) (waCons (wL (wLst (waCons (wC .non) (waCons (wC (.str "a")) (waCons (wTup (waCons (wC (.str "key")) (waCons (wC (.str "A")) waNil))) (waCons (wTup (waCons (wC (.str "keys")) (waCons (wC (.str "a")) waNil))) (waCons (wL (wLst (waCons (wC (.str "key")) (waCons (wC (.str "a")) waNil)))) (waCons (wTup waNil) (waCons wDct0 (waCons (wC (.int 3)) (waCons (wTup (waCons (wC (.str "plus")) (waCons (wTup (waCons (wC (.str "key")) (waCons (wC (.str "a")) waNil))) waNil))) waNil))))))))))) waNil))) 14) (wSeq (wAsg (wCall w__law_pick [] (waCons (wVar 0) (waCons (wL (wLst (waCons (wC .non) (waCons (wUn negT (wC (.int 1))) (waCons (wOp addT (wOp powT (wC (.int 10)) (wC (.int 6))) (wC (.int 1))) (waCons (wC (.bl true)) (waCons (wC (.str "1")) (waCons (wTup (waCons (wC (.int 1)) waNil)) (waCons (wOp powT (wC (.int 10)) (wC (.int 60))) waNil))))))))) waNil))) 6) (wSeq (wAsg (wCall w__law_pick [] (waCons (wVar 0) (waCons (wL (wLst (waCons (wC .non) (waCons (wTup waNil) (waCons (wTup (waCons (wC (.str "a")) (waCons (wC (.int 3)) waNil))) (waCons (wTup (waCons (wTup (waCons (wC (.str "A")) (waCons (wC (.int 3)) waNil))) waNil)) (waCons (wL (wLst (waCons (wTup (waCons (wC (.str "a")) (waCons (wC (.int 3)) waNil))) waNil))) (waCons (wTup (waCons (wTup (waCons (wC (.str "b")) (waCons (wC (.int 1)) waNil))) (waCons (wTup (waCons (wC (.str "a")) (waCons (wC (.int 1)) waNil))) waNil))) (waCons wDct0 (waCons (wC (.int 3)) (waCons (wTup (waCons (wTup (waCons (wC (.str "a")) (waCons (wC (.str "x")) waNil))) waNil)) (waCons (wTup (waCons (wTup (waCons (wC (.str "a")) (waCons (wOp powT (wC (.int 10)) (wC (.int 12))) waNil))) waNil)) waNil)))))))))))) waNil))) 7) (wSeq (wAsg (wCall w__law_pick [] (waCons (wVar 0) (waCons (wL (wLst (waCons (wC .non) (waCons (wC (.int 0)) (waCons (wUn negT (wC (.int 1))) (waCons (wC (.bl true)) (waCons (wC (.str "1")) (waCons (wTup (waCons (wC (.int 1)) waNil)) (waCons (wOp powT (wC (.int 10)) (wC (.int 60))) waNil))))))))) waNil))) 9) (wSeq (wAsg (wCall w__law_pick [] (waCons (wVar 0) (waCons (wL (wLst (waCons (wC .non) (waCons (wC (.int 3)) (waCons (wTup (waCons (wC (.int 3)) waNil)) (waCons (wTup (waCons (wC (.int 3)) (waCons (wC (.int 1)) (waCons (wC (.int 1)) waNil)))) (waCons (wL (wLst (waCons (wC (.int 3)) (waCons (wC (.int 1)) waNil)))) (waCons (wTup (waCons (wC (.bl true)) (waCons (wC (.int 1)) waNil))) (waCons (wTup (waCons (wC (.int 3)) (waCons (wUn negT (wC (.int 1))) waNil))) (waCons (wTup (waCons (wC (.int 3)) (waCons (wC (.str "1")) waNil))) (waCons wDct0 waNil))))))))))) waNil))) 10) (wSeq (wAsg (wMakeP (cN "Reader") [] w_Reader___init__ (waCons (wC (.int 1)) (waCons (wC (.int 2)) waNil))) 8) (wSeq (wAsg (wMeth (cN "Reader") "with_write" (w_Reader_with_write cN) [] (wMeth (cN "Reader") "with_read" (w_Reader_with_read cN) [] (wVar 8) (waCons (wTup (waCons (wC (.str "key")) (waCons (wC (.str "a")) waNil))) (waCons (wC (.int 0)) waNil))) (waCons (wTup (waCons (wTup (waCons (wC (.str "a")) (waCons (wC (.int 1)) waNil))) waNil)) waNil)) 12) (wSeq (wAsg (wCall w__law_pick [] (waCons (wVar 0) (waCons (wL (wLst (waCons (wC .non) (waCons (wL (wLst (waCons (wVar 8) waNil))) (waCons (wVar 8) (waCons (wTup (waCons (wVar 8) (waCons (wC .non) waNil))) (waCons (wTup (waCons (wVar 8) (waCons (wVar 8) waNil))) (waCons (wTup (waCons (wMakeP (cN "Reader") [] w_Reader___init__ (waCons (wC (.int 2)) (waCons (wC (.int 1)) waNil))) (waCons (wVar 8) waNil))) (waCons (wC (.str "readers")) (waCons wDct0 (waCons (wTup (waCons (wC (.int 1)) waNil)) waNil))))))))))) waNil))) 15) (wSeq (wOwn (wLst (waCons (wMetA em 2 (hd__law_met cN) (wTup (waCons (wC (.str "fine")) waNil)) (xMake (cN "Reader") [] (wx_Reader___init__ cN) (waCons (wVar 11) (waCons (wVar 13) waNil)))) waNil)) 1) (wSeq (wApp 1 (wMetA em 2 (hd__law_met cN) (wTup (waCons (wC (.str "fine")) waNil)) (xMake (cN "Reader") [] (wx_Reader___init__ cN) (waCons (wC (.int 5)) (waCons (wVar 13) waNil))))) (wSeq (wApp 1 (wMetA em 2 (hd__law_met cN) (wTup (waCons (wC (.str "fine")) waNil)) (xMeth (cN "Reader") "with_read" (wx_Reader_with_read cN) [] (wVar 8) (waCons (wVar 14) (waCons (wVar 6) waNil))))) (wSeq (wApp 1 (wMetA em 2 (hd__law_met cN) (wTup (waCons (wC (.str "fine")) waNil)) (xMeth (cN "Reader") "with_read" (wx_Reader_with_read cN) [] (wVar 12) (waCons (wTup (waCons (wC (.str "key")) (waCons (wC (.str "a")) waNil))) (waCons (wVar 6) waNil))))) (wSeq (wApp 1 (wMetA em 2 (hd__law_met cN) (wTup (waCons (wC (.str "fine")) waNil)) (xMeth (cN "Reader") "with_read" (wx_Reader_with_read cN) [] (wVar 12) (waCons (wTup (waCons (wC (.str "key")) (waCons (wC (.str "a")) waNil))) (waCons (wOp powT (wC (.int 10)) (wC (.int 6))) waNil))))) (wSeq (wApp 1 (wMetA em 2 (hd__law_met cN) (wTup (waCons (wC (.str "fine")) waNil)) (xMeth (cN "Reader") "with_write" (wx_Reader_with_write cN) [] (wVar 12) (waCons (wVar 7) waNil)))) (wSeq (wApp 1 (wMetA em 2 (hd__law_met cN) (wTup (waCons (wC (.str "fine")) waNil)) (xMeth (cN "Reader") "with_write" (wx_Reader_with_write cN) [] (wVar 12) (waCons (wTup (waCons (wTup (waCons (wC (.str "a")) (waCons (wC (.int 1)) waNil))) waNil)) waNil)))) (wSeq (wApp 1 (wMetA em 2 (hd__law_met cN) (wTup (waCons (wC (.str "fine")) waNil)) (xMeth (cN "Reader") "answered" (wx_Reader_answered cN) [] (wVar 8) (waCons (wVar 9) (waCons (wVar 10) waNil))))) (wSeq (wApp 1 (wMetA em 2 (hd__law_met cN) (wTup (waCons (wC (.str "fine")) waNil)) (xMeth (cN "Reader") "answered" (wx_Reader_answered cN) [] (wVar 8) (waCons (wC (.int 1)) (waCons (wVar 10) waNil))))) (wSeq (wApp 1 (wMetA em 2 (hd__law_met cN) (wTup (waCons (wC (.str "fine")) waNil)) (xMeth (cN "Reader") "heard_done" (wx_Reader_heard_done cN) [] (wVar 12) (waCons (wVar 9) (waCons (wVar 10) waNil))))) (wSeq (wApp 1 (wMetA em 2 (hd__law_met cN) (wTup (waCons (wC (.str "fine")) waNil)) (xMeth (cN "Reader") "heard_done" (wx_Reader_heard_done cN) [] (wVar 12) (waCons (wC (.int 9)) (waCons (wVar 10) waNil))))) (wSeq (wApp 1 (wMetA em 2 (hd__law_met cN) (wTup (waCons (wC (.str "fine")) waNil)) (xMeth (cN "Reader") "dropped" (wx_Reader_dropped cN) [] (wVar 8) waNil))) (wSeq (wApp 1 (wMetA em 2 (hd__law_met cN) (wTup (waCons (wC (.str "fine")) waNil)) (xMeth (cN "Reader") "dropped" (wx_Reader_dropped cN) [] (wMeth (cN "Reader") "dropped" (w_Reader_dropped cN) [] (wVar 12) waNil) waNil))) (wSeq (wApp 1 (wMetA em 2 (hd__law_met cN) (wTup (waCons (wC (.str "fine")) waNil)) (xMeth (cN "Reader") "dropped" (wx_Reader_dropped cN) [] (wMeth (cN "Reader") "fallen" (w_Reader_fallen cN) [] (wVar 12) waNil) waNil))) (wSeq (wApp 1 (wMetA em 2 (hd__law_met cN) (wTup (waCons (wC (.str "fine")) waNil)) (xCall (wx_open_reads cN) [] (waCons (wVar 15) waNil)))) (wSeq (wApp 1 (wMetA em 2 (hd__law_met cN) (wTup (waCons (wC (.str "fine")) waNil)) (xCall (wx_open_writes cN) [] (waCons (wVar 15) waNil)))) (wFrz 1 (wSeq (wPar3 2 3 4 (waCons (wTup (waCons (wC (.str "refused")) (waCons (wC (.str "number")) (waCons (wCB reprZ (waCons (wVar 9) waNil)) waNil)))) (waCons (wTup (waCons (wC (.str "refused")) (waCons (wC (.str "reason")) (waCons (wTup (waCons (wC (.str "open")) waNil)) waNil)))) (waCons (wTup (waCons (wC (.str "refused")) (waCons (wC (.str "reason")) (waCons (wTup (waCons (wC (.str "none")) waNil)) waNil)))) waNil)))) (wSeq (wAsg (wL (wLst (waCons (wTup (waCons (wC (.str "refused")) (waCons (wC (.str "number")) (waCons (wCB reprZ (waCons (wVar 11) waNil)) waNil)))) (waCons (wTup (waCons (wC (.str "refused")) (waCons (wC (.str "number")) (waCons (wCB reprZ (waCons (wVar 13) waNil)) waNil)))) (waCons (wTup (waCons (wC (.str "refused")) (waCons (wC (.str "question")) waNil))) (waCons (wTup (waCons (wC (.str "refused")) (waCons (wC (.str "number")) (waCons (wCB reprZ (waCons (wVar 6) waNil)) waNil)))) waNil)))))) 5) (wSeq (wAsg (wOp addT (wVar 5) (wL (wLst (waCons (wVar 3) (waCons (wTup (waCons (wC (.str "refused")) (waCons (wC (.str "deed")) waNil))) (waCons (wVar 3) (waCons (wVar 2) (waCons (wTup (waCons (wC (.str "refused")) (waCons (wC (.str "instant")) waNil))) (waCons (wVar 2) (waCons (wTup (waCons (wC (.str "refused")) (waCons (wC (.str "instant")) waNil))) (waCons (wVar 4) (waCons (wVar 4) waNil)))))))))))) 5) (wRet (wOp eqT (wVar 1) (wOp addT (wVar 5) (wL (wLst (waCons (wVar 4) (waCons (wTup (waCons (wC (.str "refused")) (waCons (wC (.str "operation")) waNil))) (waCons (wTup (waCons (wC (.str "refused")) (waCons (wC (.str "operation")) waNil))) waNil)))))))))))))))))))))))))))))))))))))) ⟨fun _ => P (.val .non), retK P, fun _ => False, fun _ => False⟩ [x0, .any, .any, .any, .any, .any, .any, .any, .any, .any, .any, .any, .any, .any, .any, .any]) : w__law_right cN em [x0] P := ⟨rfl, h⟩
theorem st_law {cN : Str → Addr} {em : Value → Value → Option Bool} {P : Sl → Prop} {x0 : Sl} (h : (wSeq (wFor (wiRng1 (waCons (wCB max2T (waCons (wC (.int 1)) (waCons (wCB min2T (waCons (wC (.int 4)) (waCons (wCB lenT (waCons (wVar 0) waNil)) waNil))) waNil))) waNil)) (Tg.name 1) (wIf (wNot (wTru (wOnDice preDice (w__law_right cN em) (waCons (wVar 0) (waCons (wVar 1) waNil))))) (wRet (wC (.bl false))) wNext)) (wSeq (wOwn (wLst (waCons (wMetA em 2 (hd__law_met cN) (wTup (waCons (wC (.str "fine")) waNil)) (xMeth (cN "Reader") "with_read" (wx_Reader_with_read cN) [] (wMakeP (cN "Reader") [] w_Reader___init__ (waCons (wC (.int 5)) (waCons (wC (.int 6)) waNil))) (waCons (wTup (waCons (wC (.str "key")) (waCons (wC (.str "a")) waNil))) (waCons (wOp powT (wC (.int 10)) (wC (.int 6))) waNil)))) waNil)) 2) (wSeq (wApp 2 (wMetA em 2 (hd__law_met cN) (wTup (waCons (wC (.str "fine")) waNil)) (xMeth (cN "Reader") "answered" (wx_Reader_answered cN) [] (wMakeP (cN "Reader") [] w_Reader___init__ (waCons (wC (.int 0)) (waCons (wC (.int 1)) waNil))) (waCons (wOp powT (wC (.int 10)) (wC (.int 59))) (waCons (wTup (waCons (wC (.int 0)) (waCons (wC (.int 0)) waNil))) waNil))))) (wSeq (wApp 2 (wMetA em 2 (hd__law_met cN) (wTup (waCons (wC (.str "fine")) waNil)) (xCall (wx_open_reads cN) [] (waCons (wTup waNil) waNil)))) (wFrz 2 (wRet (wAndV (wOp eqT (wVar 2) (wOp mulT (wL (wLst (waCons (wTup (waCons (wC (.str "fine")) waNil)) waNil))) (wC (.int 3)))) (wOp eqT (wC (.int 1000000)) (wOp powT (wC (.int 10)) (wC (.int 6))))))))))) ⟨fun _ => P (.val .non), retK P, fun _ => False, fun _ => False⟩ [x0, .any, .any]) : w_law cN em [x0] P := ⟨rfl, h⟩
end My


set_option Elab.async false
set_option linter.all false
set_option maxRecDepth 100000
set_option maxHeartbeats 0
local macro_rules | `(tactic| left) => `(tactic| first
  | with_reducible refine Tr.x_seq ?_
  | with_reducible refine Tr.x_next ?_
  | with_reducible refine Tr.x_asg ?_
  | with_reducible refine Tr.x_asgv ?_
  | with_reducible refine Tr.x_asgd ?_
  | with_reducible refine Tr.x_st0 ?_
  | with_reducible refine Tr.x_st1 ?_
  | with_reducible refine Tr.x_st2 ?_
  | with_reducible refine Tr.x_st3 ?_
  | with_reducible refine Tr.x_st4 ?_
  | with_reducible refine Tr.x_st5 ?_
  | with_reducible refine Tr.x_st6 ?_
  | with_reducible refine Tr.x_st7 ?_
  | with_reducible refine Tr.x_st8 ?_
  | with_reducible refine Tr.x_st9 ?_
  | with_reducible refine Tr.x_st10 ?_
  | with_reducible refine Tr.x_st11 ?_
  | with_reducible refine Tr.x_st12 ?_
  | with_reducible refine Tr.x_st13 ?_
  | with_reducible refine Tr.x_st14 ?_
  | with_reducible refine Tr.x_st15 ?_
  | with_reducible refine Tr.x_st16 ?_
  | with_reducible refine Tr.x_st17 ?_
  | with_reducible refine Tr.x_if ?_
  | with_reducible refine Tr.x_ift ?_
  | with_reducible refine Tr.x_iff ?_
  | with_reducible refine Tr.x_ifE1 ?_
  | with_reducible refine Tr.x_ifE0 ?_
  | with_reducible refine Tr.x_ifn ?_
  | ((with_reducible apply Tr.x_ifp); (first | assumption | exact rfl | omega | (simp only [List.length_map, List.length_append, List.length_cons, List.length_nil, List.length_replicate, List.length_drop, List.length_take, List.length_set]; omega) | decide))
  | ((with_reducible apply Tr.x_ifq); (first | assumption | omega | (simp only [List.length_map, List.length_append, List.length_cons, List.length_nil, List.length_replicate, List.length_drop, List.length_take, List.length_set]; omega) | decide))
  | with_reducible refine Tr.x_ret ?_
  | with_reducible refine Tr.x_retK ?_
  | with_reducible refine Tr.x_retO ?_
  | with_reducible refine Tr.x_retN ?_
  | with_reducible refine Tr.x_drop ?_
  | with_reducible refine Tr.x_brk ?_
  | with_reducible refine Tr.x_cnt ?_
  | with_reducible refine Tr.x_own ?_
  | with_reducible refine Tr.x_ownl fun l => ?_
  | with_reducible refine Tr.x_asgT ?_
  | with_reducible refine Tr.x_asgT2 ?_
  | with_reducible refine Tr.x_asgT3 ?_
  | with_reducible refine Tr.x_asgT4 ?_
  | with_reducible refine Tr.x_par ?_
  | with_reducible refine Tr.x_parv ?_
  | with_reducible refine Tr.x_par3 ?_
  | with_reducible refine Tr.x_par3v ?_
  | ((with_reducible apply Tr.x_aug); (exact rfl))
  | with_reducible refine Tr.x_augv ?_
  | ((with_reducible apply Tr.x_app); (exact rfl); (first | omega | (simp only [List.length_map, List.length_append, List.length_cons, List.length_nil, List.length_replicate, List.length_drop, List.length_take, List.length_set]; omega) | decide))
  | with_reducible refine Tr.x_appv ?_
  | ((with_reducible apply Tr.x_ext); (exact rfl))
  | ((with_reducible apply Tr.x_extv); (first | omega | (simp only [List.length_map, List.length_append, List.length_cons, List.length_nil, List.length_replicate, List.length_drop, List.length_take, List.length_set]; omega) | decide))
  | ((with_reducible apply Tr.x_frz); (exact rfl))
  | with_reducible refine Tr.x_for ?_
  | with_reducible refine Tr.x_B ?_
  | with_reducible refine Tr.x_Bv ?_
  | with_reducible refine Tr.x_not ?_
  | with_reducible refine Tr.x_nott ?_
  | with_reducible refine Tr.x_notf ?_
  | with_reducible refine Tr.x_notv ?_
  | with_reducible refine Tr.x_and ?_
  | with_reducible refine Tr.x_or ?_
  | with_reducible refine Tr.x_tru ?_
  | with_reducible refine Tr.x_trub ?_
  | with_reducible refine Tr.x_trui ?_
  | with_reducible refine Tr.x_trun ?_
  | with_reducible refine Tr.x_trutup0 ?_
  | with_reducible refine Tr.x_trutup1 ?_
  | with_reducible refine Tr.x_trutup ?_
  | with_reducible refine Tr.x_trulst0 ?_
  | with_reducible refine Tr.x_trulst1 ?_
  | with_reducible refine Tr.x_trulst ?_
  | with_reducible refine Tr.x_truo ?_
  | with_reducible refine Tr.x_ifE ?_
  | with_reducible refine Tr.x_andV ?_
  | with_reducible refine Tr.x_orV ?_
  | with_reducible refine Tr.x_bo ?_
  | with_reducible refine Tr.x_notV ?_
  | with_reducible refine Tr.x_v0 ?_
  | with_reducible refine Tr.x_d0 ?_
  | with_reducible refine Tr.x_o0 ?_
  | with_reducible refine Tr.x_v1 ?_
  | with_reducible refine Tr.x_d1 ?_
  | with_reducible refine Tr.x_o1 ?_
  | with_reducible refine Tr.x_v2 ?_
  | with_reducible refine Tr.x_d2 ?_
  | with_reducible refine Tr.x_o2 ?_
  | with_reducible refine Tr.x_v3 ?_
  | with_reducible refine Tr.x_d3 ?_
  | with_reducible refine Tr.x_o3 ?_
  | with_reducible refine Tr.x_v4 ?_
  | with_reducible refine Tr.x_d4 ?_
  | with_reducible refine Tr.x_o4 ?_
  | with_reducible refine Tr.x_v5 ?_
  | with_reducible refine Tr.x_d5 ?_
  | with_reducible refine Tr.x_o5 ?_
  | with_reducible refine Tr.x_v6 ?_
  | with_reducible refine Tr.x_d6 ?_
  | with_reducible refine Tr.x_o6 ?_
  | with_reducible refine Tr.x_v7 ?_
  | with_reducible refine Tr.x_d7 ?_
  | with_reducible refine Tr.x_o7 ?_
  | with_reducible refine Tr.x_v8 ?_
  | with_reducible refine Tr.x_d8 ?_
  | with_reducible refine Tr.x_o8 ?_
  | with_reducible refine Tr.x_v9 ?_
  | with_reducible refine Tr.x_d9 ?_
  | with_reducible refine Tr.x_o9 ?_
  | with_reducible refine Tr.x_v10 ?_
  | with_reducible refine Tr.x_d10 ?_
  | with_reducible refine Tr.x_o10 ?_
  | with_reducible refine Tr.x_v11 ?_
  | with_reducible refine Tr.x_d11 ?_
  | with_reducible refine Tr.x_o11 ?_
  | with_reducible refine Tr.x_v12 ?_
  | with_reducible refine Tr.x_d12 ?_
  | with_reducible refine Tr.x_o12 ?_
  | with_reducible refine Tr.x_v13 ?_
  | with_reducible refine Tr.x_d13 ?_
  | with_reducible refine Tr.x_o13 ?_
  | with_reducible refine Tr.x_v14 ?_
  | with_reducible refine Tr.x_d14 ?_
  | with_reducible refine Tr.x_o14 ?_
  | with_reducible refine Tr.x_v15 ?_
  | with_reducible refine Tr.x_d15 ?_
  | with_reducible refine Tr.x_o15 ?_
  | with_reducible refine Tr.x_v16 ?_
  | with_reducible refine Tr.x_d16 ?_
  | with_reducible refine Tr.x_o16 ?_
  | with_reducible refine Tr.x_v17 ?_
  | with_reducible refine Tr.x_d17 ?_
  | with_reducible refine Tr.x_o17 ?_
  | with_reducible refine Tr.x_C ?_
  | with_reducible refine Tr.x_dct ?_
  | with_reducible refine Tr.x_op ?_
  | with_reducible refine Tr.x_opvv ?_
  | with_reducible refine Tr.x_opov ?_
  | with_reducible refine Tr.x_opvo ?_
  | with_reducible refine Tr.x_opoo ?_
  | with_reducible refine Tr.x_eq ?_
  | with_reducible refine Tr.x_ne ?_
  | with_reducible refine Tr.x_lt ?_
  | with_reducible refine Tr.x_le ?_
  | with_reducible refine Tr.x_gt ?_
  | with_reducible refine Tr.x_ge ?_
  | with_reducible refine Tr.x_add ?_
  | with_reducible refine Tr.x_sub ?_
  | ((with_reducible apply Tr.x_keqTt); (decide +kernel))
  | ((with_reducible apply Tr.x_keqTf); (decide +kernel))
  | ((with_reducible apply Tr.x_kneTt); (decide +kernel))
  | ((with_reducible apply Tr.x_kneTf); (decide +kernel))
  | ((with_reducible apply Tr.x_mul); (first | exact Tr.wideL0 (by omega) | exact Tr.wideR0 (by omega)))
  | ((with_reducible apply Tr.x_mod); (first | omega | decide))
  | ((with_reducible apply Tr.x_div); (first | assumption | exact Tr.divOk_s (by omega) (by omega) | decide +kernel))
  | ((with_reducible apply Tr.x_addt); (first | omega | (simp only [List.length_map, List.length_append, List.length_cons, List.length_nil, List.length_replicate, List.length_drop, List.length_take, List.length_set]; omega) | decide))
  | ((with_reducible apply Tr.x_addl); (first | omega | (simp only [List.length_map, List.length_append, List.length_cons, List.length_nil, List.length_replicate, List.length_drop, List.length_take, List.length_set]; omega) | decide))
  | ((with_reducible apply Tr.x_adds); (first | omega | (simp only [List.length_map, List.length_append, List.length_cons, List.length_nil, List.length_replicate, List.length_drop, List.length_take, List.length_set]; omega) | decide))
  | with_reducible refine Tr.x_ixtup0 ?_
  | with_reducible refine Tr.x_ixtup1 ?_
  | with_reducible refine Tr.x_ixtup2 ?_
  | with_reducible refine Tr.x_ixtup3 ?_
  | with_reducible refine Tr.x_ixtup4 ?_
  | with_reducible refine Tr.x_ixtup5 ?_
  | with_reducible refine Tr.x_ixtup6 ?_
  | with_reducible refine Tr.x_ixtup7 ?_
  | with_reducible refine Tr.x_ixlst0 ?_
  | with_reducible refine Tr.x_ixlst1 ?_
  | with_reducible refine Tr.x_ixlst2 ?_
  | with_reducible refine Tr.x_ixlst3 ?_
  | with_reducible refine Tr.x_ixlst4 ?_
  | with_reducible refine Tr.x_ixlst5 ?_
  | with_reducible refine Tr.x_ixlst6 ?_
  | with_reducible refine Tr.x_ixlst7 ?_
  | with_reducible refine Tr.x_un ?_
  | with_reducible refine Tr.x_neg ?_
  | with_reducible refine Tr.x_ch2 ?_
  | with_reducible refine Tr.x_ch ?_
  | with_reducible refine Tr.x_cheq ?_
  | with_reducible refine Tr.x_chlt ?_
  | with_reducible refine Tr.x_chle ?_
  | with_reducible refine Tr.x_chgt ?_
  | with_reducible refine Tr.x_chge ?_
  | with_reducible refine Tr.x_isN ?_
  | with_reducible refine Tr.x_isN0n ?_
  | with_reducible refine Tr.x_isN1n ?_
  | with_reducible refine Tr.x_isN0b ?_
  | with_reducible refine Tr.x_isN1b ?_
  | with_reducible refine Tr.x_isN0i ?_
  | with_reducible refine Tr.x_isN1i ?_
  | with_reducible refine Tr.x_isN0s ?_
  | with_reducible refine Tr.x_isN1s ?_
  | with_reducible refine Tr.x_isN0t ?_
  | with_reducible refine Tr.x_isN1t ?_
  | with_reducible refine Tr.x_isN0l ?_
  | with_reducible refine Tr.x_isN1l ?_
  | with_reducible refine Tr.x_isN0d ?_
  | with_reducible refine Tr.x_isN1d ?_
  | with_reducible refine Tr.x_isN0I ?_
  | with_reducible refine Tr.x_isN1I ?_
  | with_reducible refine Tr.x_nil ?_
  | with_reducible refine Tr.x_cons ?_
  | with_reducible refine Tr.x_tup ?_
  | with_reducible refine Tr.x_Lst ?_
  | with_reducible refine Tr.x_tup0 ?_
  | with_reducible refine Tr.x_lst0 ?_
  | with_reducible refine Tr.x_tup1 ?_
  | with_reducible refine Tr.x_lst1 ?_
  | with_reducible refine Tr.x_tup2 ?_
  | with_reducible refine Tr.x_lst2 ?_
  | with_reducible refine Tr.x_tup3 ?_
  | with_reducible refine Tr.x_lst3 ?_
  | with_reducible refine Tr.x_tup4 ?_
  | with_reducible refine Tr.x_lst4 ?_
  | with_reducible refine Tr.x_tup5 ?_
  | with_reducible refine Tr.x_lst5 ?_
  | with_reducible refine Tr.x_tup6 ?_
  | with_reducible refine Tr.x_lst6 ?_
  | with_reducible refine Tr.x_tup7 ?_
  | with_reducible refine Tr.x_lst7 ?_
  | with_reducible refine Tr.x_tup8 ?_
  | with_reducible refine Tr.x_lst8 ?_
  | with_reducible refine Tr.x_tup9 ?_
  | with_reducible refine Tr.x_lst9 ?_
  | with_reducible refine Tr.x_tup10 ?_
  | with_reducible refine Tr.x_lst10 ?_
  | with_reducible refine Tr.x_tup11 ?_
  | with_reducible refine Tr.x_lst11 ?_
  | with_reducible refine Tr.x_tup12 ?_
  | with_reducible refine Tr.x_lst12 ?_
  | with_reducible refine Tr.x_tup13 ?_
  | with_reducible refine Tr.x_lst13 ?_
  | with_reducible refine Tr.x_L ?_
  | with_reducible refine Tr.x_lof ?_
  | with_reducible refine Tr.x_loflst ?_
  | with_reducible refine Tr.x_loftup ?_
  | with_reducible refine Tr.x_lofscr ?_
  | with_reducible refine Tr.x_lofo ?_
  | with_reducible refine Tr.x_sl ?_
  | with_reducible refine Tr.x_slt ?_
  | with_reducible refine Tr.x_sll ?_
  | with_reducible refine Tr.x_slo ?_
  | ((with_reducible apply Tr.x_sls); (first | omega | (simp only [List.length_map, List.length_append, List.length_cons, List.length_nil, List.length_replicate, List.length_drop, List.length_take, List.length_set]; omega) | decide))
  | with_reducible refine Tr.x_oN ?_
  | with_reducible refine Tr.x_oS ?_
  | with_reducible refine Tr.x_oSv ?_
  | with_reducible refine Tr.x_cb ?_
  | with_reducible refine Tr.x_lenlst ?_
  | with_reducible refine Tr.x_tupoflst ?_
  | with_reducible refine Tr.x_lentup ?_
  | with_reducible refine Tr.x_tupoftup ?_
  | with_reducible refine Tr.x_lenscr ?_
  | with_reducible refine Tr.x_tupofscr ?_
  | with_reducible refine Tr.x_leno ?_
  | with_reducible refine Tr.x_tupofo ?_
  | ((with_reducible apply Tr.x_lens); (first | omega | (simp only [List.length_map, List.length_append, List.length_cons, List.length_nil, List.length_replicate, List.length_drop, List.length_take, List.length_set]; omega) | decide))
  | with_reducible refine Tr.x_intb ?_
  | with_reducible refine Tr.x_intb0 ?_
  | with_reducible refine Tr.x_inti ?_
  | with_reducible refine Tr.x_max2 ?_
  | with_reducible refine Tr.x_min2 ?_
  | with_reducible refine Tr.x_abs ?_
  | with_reducible refine Tr.x_isinint ?_
  | with_reducible refine Tr.x_isinbool ?_
  | with_reducible refine Tr.x_isinstr ?_
  | with_reducible refine Tr.x_isintuple ?_
  | with_reducible refine Tr.x_isinlist ?_
  | with_reducible refine Tr.x_isindict ?_
  | with_reducible refine Tr.x_isibint ?_
  | with_reducible refine Tr.x_isibbool ?_
  | with_reducible refine Tr.x_isibstr ?_
  | with_reducible refine Tr.x_isibtuple ?_
  | with_reducible refine Tr.x_isiblist ?_
  | with_reducible refine Tr.x_isibdict ?_
  | with_reducible refine Tr.x_isiiint ?_
  | with_reducible refine Tr.x_isiibool ?_
  | with_reducible refine Tr.x_isiistr ?_
  | with_reducible refine Tr.x_isiituple ?_
  | with_reducible refine Tr.x_isiilist ?_
  | with_reducible refine Tr.x_isiidict ?_
  | with_reducible refine Tr.x_isisint ?_
  | with_reducible refine Tr.x_isisbool ?_
  | with_reducible refine Tr.x_isisstr ?_
  | with_reducible refine Tr.x_isistuple ?_
  | with_reducible refine Tr.x_isislist ?_
  | with_reducible refine Tr.x_isisdict ?_
  | with_reducible refine Tr.x_isitint ?_
  | with_reducible refine Tr.x_isitbool ?_
  | with_reducible refine Tr.x_isitstr ?_
  | with_reducible refine Tr.x_isittuple ?_
  | with_reducible refine Tr.x_isitlist ?_
  | with_reducible refine Tr.x_isitdict ?_
  | with_reducible refine Tr.x_isilint ?_
  | with_reducible refine Tr.x_isilbool ?_
  | with_reducible refine Tr.x_isilstr ?_
  | with_reducible refine Tr.x_isiltuple ?_
  | with_reducible refine Tr.x_isillist ?_
  | with_reducible refine Tr.x_isildict ?_
  | with_reducible refine Tr.x_isidint ?_
  | with_reducible refine Tr.x_isidbool ?_
  | with_reducible refine Tr.x_isidstr ?_
  | with_reducible refine Tr.x_isidtuple ?_
  | with_reducible refine Tr.x_isidlist ?_
  | with_reducible refine Tr.x_isiddict ?_
  | with_reducible refine Tr.x_lc ?_
  | with_reducible refine Tr.x_iseq ?_
  | with_reducible refine Tr.x_seqlst ?_
  | with_reducible refine Tr.x_seqtup ?_
  | with_reducible refine Tr.x_seqscr ?_
  | with_reducible refine Tr.x_istr ?_
  | with_reducible refine Tr.x_istrv ?_
  | with_reducible refine Tr.x_rg1 ?_
  | ((with_reducible apply Tr.x_rg1v); (first | omega | (simp only [List.length_map, List.length_append, List.length_cons, List.length_nil, List.length_replicate, List.length_drop, List.length_take, List.length_set]; omega) | decide); (first | omega | (simp only [List.length_map, List.length_append, List.length_cons, List.length_nil, List.length_replicate, List.length_drop, List.length_take, List.length_set]; omega) | decide))
  | with_reducible refine Tr.x_rg2 ?_
  | ((with_reducible apply Tr.x_rg2v); (first | omega | (simp only [List.length_map, List.length_append, List.length_cons, List.length_nil, List.length_replicate, List.length_drop, List.length_take, List.length_set]; omega) | decide); (first | omega | (simp only [List.length_map, List.length_append, List.length_cons, List.length_nil, List.length_replicate, List.length_drop, List.length_take, List.length_set]; omega) | decide); (first | omega | (simp only [List.length_map, List.length_append, List.length_cons, List.length_nil, List.length_replicate, List.length_drop, List.length_take, List.length_set]; omega) | decide); (first | omega | (simp only [List.length_map, List.length_append, List.length_cons, List.length_nil, List.length_replicate, List.length_drop, List.length_take, List.length_set]; omega) | decide))
  | with_reducible refine Tr.x_en ?_
  | with_reducible refine Tr.x_enl ?_
  | with_reducible refine Tr.x_ent ?_
  | with_reducible refine Tr.x_sw ?_
  | with_reducible refine Tr.x_sw1 ?_
  | with_reducible refine Tr.x_swv ?_
  | with_reducible refine Tr.x_call ?_
  | ((with_reducible apply Tr.x_call0_0); (exact rfl))
  | ((with_reducible apply Tr.x_call0_1); (exact rfl))
  | ((with_reducible apply Tr.x_call0_2); (exact rfl))
  | ((with_reducible apply Tr.x_call0_3); (exact rfl))
  | ((with_reducible apply Tr.x_call1_0); (exact rfl))
  | ((with_reducible apply Tr.x_call1_1); (exact rfl))
  | ((with_reducible apply Tr.x_call1_2); (exact rfl))
  | ((with_reducible apply Tr.x_call1_3); (exact rfl))
  | ((with_reducible apply Tr.x_call2_0); (exact rfl))
  | ((with_reducible apply Tr.x_call2_1); (exact rfl))
  | ((with_reducible apply Tr.x_call2_2); (exact rfl))
  | ((with_reducible apply Tr.x_call2_3); (exact rfl))
  | ((with_reducible apply Tr.x_call3_0); (exact rfl))
  | ((with_reducible apply Tr.x_call3_1); (exact rfl))
  | ((with_reducible apply Tr.x_call3_2); (exact rfl))
  | ((with_reducible apply Tr.x_call3_3); (exact rfl))
  | ((with_reducible apply Tr.x_call4_0); (exact rfl))
  | ((with_reducible apply Tr.x_call4_1); (exact rfl))
  | ((with_reducible apply Tr.x_call4_2); (exact rfl))
  | ((with_reducible apply Tr.x_call4_3); (exact rfl))
  | ((with_reducible apply Tr.x_call5_0); (exact rfl))
  | ((with_reducible apply Tr.x_call5_1); (exact rfl))
  | ((with_reducible apply Tr.x_call5_2); (exact rfl))
  | ((with_reducible apply Tr.x_call5_3); (exact rfl))
  | ((with_reducible apply Tr.x_call6_0); (exact rfl))
  | ((with_reducible apply Tr.x_call6_1); (exact rfl))
  | ((with_reducible apply Tr.x_call6_2); (exact rfl))
  | ((with_reducible apply Tr.x_call6_3); (exact rfl))
  | ((with_reducible apply Tr.x_call7_0); (exact rfl))
  | ((with_reducible apply Tr.x_call7_1); (exact rfl))
  | ((with_reducible apply Tr.x_call7_2); (exact rfl))
  | ((with_reducible apply Tr.x_call7_3); (exact rfl))
  | with_reducible refine Tr.x_met ?_
  | ((with_reducible apply Tr.x_metI); (decide +kernel))
  | ((with_reducible apply Tr.x_met0_0); (exact rfl))
  | ((with_reducible apply Tr.x_met0_1); (exact rfl))
  | ((with_reducible apply Tr.x_met0_2); (exact rfl))
  | ((with_reducible apply Tr.x_met1_0); (exact rfl))
  | ((with_reducible apply Tr.x_met1_1); (exact rfl))
  | ((with_reducible apply Tr.x_met1_2); (exact rfl))
  | ((with_reducible apply Tr.x_met2_0); (exact rfl))
  | ((with_reducible apply Tr.x_met2_1); (exact rfl))
  | ((with_reducible apply Tr.x_met2_2); (exact rfl))
  | ((with_reducible apply Tr.x_met3_0); (exact rfl))
  | ((with_reducible apply Tr.x_met3_1); (exact rfl))
  | ((with_reducible apply Tr.x_met3_2); (exact rfl))
  | ((with_reducible apply Tr.x_met4_0); (exact rfl))
  | ((with_reducible apply Tr.x_met4_1); (exact rfl))
  | ((with_reducible apply Tr.x_met4_2); (exact rfl))
  | ((with_reducible apply Tr.x_met5_0); (exact rfl))
  | ((with_reducible apply Tr.x_met5_1); (exact rfl))
  | ((with_reducible apply Tr.x_met5_2); (exact rfl))
  | ((with_reducible apply Tr.x_met6_0); (exact rfl))
  | ((with_reducible apply Tr.x_met6_1); (exact rfl))
  | ((with_reducible apply Tr.x_met6_2); (exact rfl))
  | ((with_reducible apply Tr.x_met7_0); (exact rfl))
  | ((with_reducible apply Tr.x_met7_1); (exact rfl))
  | ((with_reducible apply Tr.x_met7_2); (exact rfl))
  | with_reducible refine Tr.x_mk ?_
  | ((with_reducible apply Tr.x_mk0_0); (exact rfl))
  | ((with_reducible apply Tr.x_mk0_1); (exact rfl))
  | ((with_reducible apply Tr.x_mk0_2); (exact rfl))
  | ((with_reducible apply Tr.x_mk0_3); (exact rfl))
  | ((with_reducible apply Tr.x_mk1_0); (exact rfl))
  | ((with_reducible apply Tr.x_mk1_1); (exact rfl))
  | ((with_reducible apply Tr.x_mk1_2); (exact rfl))
  | ((with_reducible apply Tr.x_mk1_3); (exact rfl))
  | ((with_reducible apply Tr.x_mk2_0); (exact rfl))
  | ((with_reducible apply Tr.x_mk2_1); (exact rfl))
  | ((with_reducible apply Tr.x_mk2_2); (exact rfl))
  | ((with_reducible apply Tr.x_mk2_3); (exact rfl))
  | ((with_reducible apply Tr.x_mk3_0); (exact rfl))
  | ((with_reducible apply Tr.x_mk3_1); (exact rfl))
  | ((with_reducible apply Tr.x_mk3_2); (exact rfl))
  | ((with_reducible apply Tr.x_mk3_3); (exact rfl))
  | ((with_reducible apply Tr.x_mk4_0); (exact rfl))
  | ((with_reducible apply Tr.x_mk4_1); (exact rfl))
  | ((with_reducible apply Tr.x_mk4_2); (exact rfl))
  | ((with_reducible apply Tr.x_mk4_3); (exact rfl))
  | ((with_reducible apply Tr.x_mk5_0); (exact rfl))
  | ((with_reducible apply Tr.x_mk5_1); (exact rfl))
  | ((with_reducible apply Tr.x_mk5_2); (exact rfl))
  | ((with_reducible apply Tr.x_mk5_3); (exact rfl))
  | ((with_reducible apply Tr.x_mk6_0); (exact rfl))
  | ((with_reducible apply Tr.x_mk6_1); (exact rfl))
  | ((with_reducible apply Tr.x_mk6_2); (exact rfl))
  | ((with_reducible apply Tr.x_mk6_3); (exact rfl))
  | ((with_reducible apply Tr.x_mk7_0); (exact rfl))
  | ((with_reducible apply Tr.x_mk7_1); (exact rfl))
  | ((with_reducible apply Tr.x_mk7_2); (exact rfl))
  | ((with_reducible apply Tr.x_mk7_3); (exact rfl))
  | with_reducible refine Tr.x_fld ?_
  | ((with_reducible apply Tr.x_fldI); (exact rfl))
  | with_reducible refine Tr.x_isI ?_
  | with_reducible refine Tr.x_isIt ?_
  | with_reducible refine Tr.x_isI_n ?_
  | with_reducible refine Tr.x_isI_b ?_
  | with_reducible refine Tr.x_isI_i ?_
  | with_reducible refine Tr.x_isI_s ?_
  | with_reducible refine Tr.x_isI_t ?_
  | with_reducible refine Tr.x_isI_l ?_
  | with_reducible refine Tr.x_isI_d ?_
  | with_reducible refine Tr.x_bl ?_
  | with_reducible refine Tr.x_bln ?_
  | with_reducible refine Tr.x_eqo ?_
  | ((with_reducible apply Tr.x_eqoI); (first | exact rfl | exact True.intro))
  | with_reducible refine Tr.x_neo ?_
  | ((with_reducible apply Tr.x_neoI); (first | exact rfl | exact True.intro))
  | with_reducible refine Tr.x_nseq ?_
  | with_reducible refine Tr.x_nnext ?_
  | with_reducible refine Tr.x_ndrop ?_
  | with_reducible refine Tr.x_nif ?_
  | with_reducible refine Tr.x_nset ?_
  | ((with_reducible apply Tr.x_nsetv); (decide +kernel); (decide +kernel); (simp only [List.cons_append, List.nil_append]; exact rfl); (simp only [List.cons_append, List.nil_append]; exact rfl))
  | ((with_reducible apply Tr.x_stn); (simp only [List.set_cons_succ, List.set_cons_zero]; exact rfl))
  | ((with_reducible apply Tr.x_var); exact rfl)
  | ((with_reducible apply Tr.x_vard); exact rfl)
  | ((with_reducible apply Tr.x_varo); exact rfl)
  | with_reducible refine Tr.x_srt ?_
  | with_reducible refine Tr.x_maxA ?_
  | with_reducible refine Tr.x_minA ?_
  | ((with_reducible apply Tr.x_augM); (exact rfl))
  | ((with_reducible apply Tr.x_augMv); (first | exact Tr.wideL0 (by omega) | exact Tr.wideR0 (by omega)))
  | with_reducible refine Tr.x_lr1 ?_
  | ((with_reducible apply Tr.x_lr1v); (first | omega | (simp only [List.length_map, List.length_append, List.length_cons, List.length_nil, List.length_replicate, List.length_drop, List.length_take, List.length_set]; omega) | decide); (first | omega | (simp only [List.length_map, List.length_append, List.length_cons, List.length_nil, List.length_replicate, List.length_drop, List.length_take, List.length_set]; omega) | decide))
  | with_reducible refine Tr.x_lr2 ?_
  | ((with_reducible apply Tr.x_lr2v); (first | omega | (simp only [List.length_map, List.length_append, List.length_cons, List.length_nil, List.length_replicate, List.length_drop, List.length_take, List.length_set]; omega) | decide); (first | omega | (simp only [List.length_map, List.length_append, List.length_cons, List.length_nil, List.length_replicate, List.length_drop, List.length_take, List.length_set]; omega) | decide); (first | omega | (simp only [List.length_map, List.length_append, List.length_cons, List.length_nil, List.length_replicate, List.length_drop, List.length_take, List.length_set]; omega) | decide); (first | omega | (simp only [List.length_map, List.length_append, List.length_cons, List.length_nil, List.length_replicate, List.length_drop, List.length_take, List.length_set]; omega) | decide))
  | with_reducible refine Tr.x_lenI ?_
  | with_reducible refine Tr.x_lenIv ?_
  | ((with_reducible apply Tr.x_nn); (first | omega | (simp only [List.length_map, List.length_append, List.length_cons, List.length_nil, List.length_replicate, List.length_drop, List.length_take, List.length_set]; omega) | decide))
  | with_reducible refine Tr.x_strI ?_
  | with_reducible refine Tr.x_strIv ?_
  | with_reducible refine Tr.x_sr ?_
  | with_reducible refine Tr.x_kd ?_
  | ((with_reducible apply Tr.x_kdv); (exact rfl))
  | ((with_reducible apply Tr.x_augD); (exact rfl))
  | ((with_reducible apply Tr.x_augDv); (first | assumption | exact Tr.divOk_s (by omega) (by omega) | decide +kernel))
  | with_reducible refine Tr.x_df ?_
  | with_reducible refine Tr.x_dfH ?_
  | with_reducible refine Tr.x_sorted ?_
  | with_reducible refine Tr.x_max3 ?_
  | with_reducible refine Tr.x_min3 ?_
  | with_reducible refine Tr.x_notT ?_
  | with_reducible refine Tr.x_lenSet ?_
  | with_reducible refine Tr.x_neE ?_
  | with_reducible refine Tr.x_eqE ?_
  | with_reducible refine Tr.x_parOO ?_
  | with_reducible refine Tr.x_parOO1 ?_
  | with_reducible refine Tr.x_parOOv fun _ _ => ?_
  | with_reducible refine Tr.x_parOV ?_
  | with_reducible refine Tr.x_parOV1 ?_
  | with_reducible refine Tr.x_parOVv fun _ => ?_
  | with_reducible refine Tr.x_parVO ?_
  | with_reducible refine Tr.x_parVO1 ?_
  | with_reducible refine Tr.x_parVOv fun _ => ?_
  | with_reducible refine Tr.x_reprB ?_
  | with_reducible refine Tr.x_wD ?_
  | ((with_reducible apply Tr.x_lcI); (exact rfl))
  | ((with_reducible apply Tr.x_dcI); (exact rfl))
  | ((with_reducible apply Tr.x_forI); (exact rfl))
  | with_reducible refine Tr.x_dc ?_
  | with_reducible refine Tr.x_sortK ?_
  | with_reducible refine Tr.x_listK ?_
  | with_reducible refine Tr.x_listKv ?_
  | with_reducible refine Tr.x_itemsL ?_
  | with_reducible refine Tr.x_itemsLv ?_
  | with_reducible refine Tr.x_itemsLo ?_
  | with_reducible refine Tr.x_lenD ?_
  | with_reducible refine Tr.x_lenDv ?_
  | ((with_reducible apply Tr.x_notOD); (exact rfl))
  | with_reducible refine Tr.x_dictM ?_
  | with_reducible refine Tr.x_dget ?_
  | ((with_reducible apply Tr.x_frzD); (exact rfl))
  | with_reducible refine Tr.x_parVD ?_
  | with_reducible refine Tr.x_dOne ?_
  | with_reducible refine Tr.x_metW ?_
  | with_reducible refine Tr.x_any (fun _ => ?_)
  | ((with_reducible apply Tr.x_hitW); (assumption); (decide +kernel))
  | ((with_reducible apply Tr.x_missW); (assumption); (decide +kernel); (decide +kernel); (decide +kernel))
  | with_reducible refine Tr.x_rev ?_
  | with_reducible refine Tr.x_revt ?_
  | with_reducible refine Tr.x_revl ?_
  | ((with_reducible apply Tr.x_lstn); (exact rfl); (exact Nat.le_of_ble_eq_true rfl))
  | with_reducible refine Tr.x_DNew ?_
  | with_reducible refine Tr.x_DCon ?_
  | with_reducible refine Tr.x_DCopy ?_
  | with_reducible refine Tr.x_dcpv ?_
  | with_reducible refine Tr.x_dcpo ?_
  | with_reducible refine Tr.x_ownD ?_
  | with_reducible refine Tr.x_ownDv (fun _ => ?_)
  | with_reducible refine Tr.x_dg1 ?_
  | with_reducible refine Tr.x_dg1v ?_
  | with_reducible refine Tr.x_dg1o ?_
  | with_reducible refine Tr.x_dg1s ?_
  | with_reducible refine Tr.x_dg1i ?_
  | with_reducible refine Tr.x_dg2 ?_
  | with_reducible refine Tr.x_dg2v ?_
  | with_reducible refine Tr.x_dg2o ?_
  | with_reducible refine Tr.x_dg2Cs ?_
  | with_reducible refine Tr.x_dg2Ci ?_
  | with_reducible refine Tr.x_dIn ?_
  | ((with_reducible apply Tr.x_diVs); (exact rfl); (exact rfl))
  | ((with_reducible apply Tr.x_diVi); (exact rfl); (exact rfl))
  | with_reducible refine Tr.x_dput ?_
  | ((with_reducible apply Tr.x_dputH); (exact rfl); (first | omega | (simp only [List.length_map, List.length_append, List.length_cons, List.length_nil, List.length_replicate]; omega)))
  | with_reducible refine Tr.x_dputs ?_
  | with_reducible refine Tr.x_dputi ?_)
local macro_rules | `(tactic| left) => `(tactic| first
  | with_reducible refine Tr.xx_seq ?_
  | with_reducible refine Tr.xx_N ?_
  | with_reducible refine Tr.xx_L ?_
  | with_reducible refine Tr.xx_E ?_
  | with_reducible refine Tr.xx_if ?_
  | with_reducible refine Tr.xx_ret ?_
  | with_reducible refine Tr.xx_drop ?_
  | with_reducible refine Tr.xx_raise ?_
  | with_reducible refine Tr.xx_call ?_
  | ((with_reducible refine Tr.xx_cv rfl ?_); (simp only [List.map_nil, List.map_cons, List.append_nil, List.cons_append, List.nil_append]))
  | with_reducible refine Tr.xx_make ?_
  | ((with_reducible refine Tr.xx_mv rfl ?_); (simp only [List.map_nil, List.map_cons, List.append_nil, List.cons_append, List.nil_append]))
  | with_reducible refine Tr.xx_meth ?_
  | ((with_reducible refine Tr.xx_mt ?_ ?_); (decide +kernel))
  | ((with_reducible refine Tr.xx_uv rfl ?_); (simp only [List.map_nil, List.map_cons, List.append_nil, List.cons_append, List.nil_append]))
  | with_reducible refine Tr.xx_nseq ?_
  | with_reducible refine Tr.xx_nif ?_
  | with_reducible refine Tr.xx_nL ?_
  | with_reducible refine Tr.xx_nraise ?_
  | with_reducible refine Tr.xx_ndrop ?_
  | with_reducible refine Tr.xx_met ?_
  | ((with_reducible apply Tr.xx_hit); (assumption); (decide +kernel))
  | ((with_reducible apply Tr.xx_miss); (assumption); (decide +kernel); (decide +kernel); (decide +kernel))
  | with_reducible refine Tr.xx_onDice ?_
  | with_reducible refine Tr.xx_is2s ?_
  | with_reducible refine Tr.xx_is2t ?_
  | with_reducible refine Tr.xx_is2f ?_
  | with_reducible refine Tr.xx_is2 ?_)
local macro_rules | `(tactic| left) => `(tactic| first
  | with_reducible refine Tr.x_asgv ?_
  | with_reducible refine Tr.x_st2 ?_
  | with_reducible refine Tr.x_st3 ?_
  | with_reducible refine Tr.x_st4 ?_
  | with_reducible refine Tr.x_st5 ?_
  | with_reducible refine Tr.x_st6 ?_
  | with_reducible refine Tr.x_st7 ?_
  | with_reducible refine Tr.x_st8 ?_
  | with_reducible refine Tr.x_st9 ?_
  | with_reducible refine Tr.x_ifn ?_
  | ((with_reducible apply Tr.x_ifp); (first | assumption | exact rfl | omega | (simp only [List.length_map, List.length_append, List.length_cons, List.length_nil, List.length_replicate, List.length_drop, List.length_take, List.length_set]; omega) | decide))
  | ((with_reducible apply Tr.x_ifq); (first | assumption | omega | (simp only [List.length_map, List.length_append, List.length_cons, List.length_nil, List.length_replicate, List.length_drop, List.length_take, List.length_set]; omega) | decide))
  | with_reducible refine Tr.x_drop ?_
  | with_reducible refine Tr.x_own ?_
  | with_reducible refine Tr.x_ownl fun l => ?_
  | with_reducible refine Tr.x_asgT ?_
  | with_reducible refine Tr.x_asgT2 ?_
  | ((with_reducible apply Tr.x_frz); (exact rfl))
  | with_reducible refine Tr.x_for ?_
  | with_reducible refine Tr.x_Bv ?_
  | with_reducible refine Tr.x_nott ?_
  | with_reducible refine Tr.x_notf ?_
  | with_reducible refine Tr.x_and ?_
  | with_reducible refine Tr.x_trutup1 ?_
  | with_reducible refine Tr.x_d0 ?_
  | with_reducible refine Tr.x_o1 ?_
  | with_reducible refine Tr.x_v3 ?_
  | with_reducible refine Tr.x_o3 ?_
  | with_reducible refine Tr.x_v4 ?_
  | with_reducible refine Tr.x_v6 ?_
  | with_reducible refine Tr.x_v7 ?_
  | with_reducible refine Tr.x_v9 ?_
  | with_reducible refine Tr.x_dct ?_
  | with_reducible refine Tr.x_opov ?_
  | with_reducible refine Tr.x_eq ?_
  | with_reducible refine Tr.x_lt ?_
  | with_reducible refine Tr.x_gt ?_
  | ((with_reducible apply Tr.x_keqTt); (decide +kernel))
  | ((with_reducible apply Tr.x_keqTf); (decide +kernel))
  | ((with_reducible apply Tr.x_addt); (first | omega | (simp only [List.length_map, List.length_append, List.length_cons, List.length_nil, List.length_replicate, List.length_drop, List.length_take, List.length_set]; omega) | decide))
  | with_reducible refine Tr.x_ixtup0 ?_
  | with_reducible refine Tr.x_ixtup1 ?_
  | with_reducible refine Tr.x_un ?_
  | with_reducible refine Tr.x_neg ?_
  | with_reducible refine Tr.x_tup0 ?_
  | with_reducible refine Tr.x_lst1 ?_
  | with_reducible refine Tr.x_tup2 ?_
  | with_reducible refine Tr.x_lst8 ?_
  | with_reducible refine Tr.x_lst9 ?_
  | with_reducible refine Tr.x_lst10 ?_
  | with_reducible refine Tr.x_lst11 ?_
  | with_reducible refine Tr.x_sl ?_
  | with_reducible refine Tr.x_slt ?_
  | with_reducible refine Tr.x_oN ?_
  | with_reducible refine Tr.x_oS ?_
  | with_reducible refine Tr.x_oSv ?_
  | with_reducible refine Tr.x_tupoflst ?_
  | with_reducible refine Tr.x_lentup ?_
  | with_reducible refine Tr.x_leno ?_
  | with_reducible refine Tr.x_isintuple ?_
  | with_reducible refine Tr.x_isisstr ?_
  | with_reducible refine Tr.x_isistuple ?_
  | with_reducible refine Tr.x_isittuple ?_
  | with_reducible refine Tr.x_isiltuple ?_
  | with_reducible refine Tr.x_lc ?_
  | with_reducible refine Tr.x_iseq ?_
  | with_reducible refine Tr.x_seqtup ?_
  | ((with_reducible apply Tr.x_call3_0); (exact rfl))
  | with_reducible refine Tr.x_met ?_
  | ((with_reducible apply Tr.x_metI); (decide +kernel))
  | ((with_reducible apply Tr.x_met1_0); (exact rfl))
  | with_reducible refine Tr.x_mk ?_
  | ((with_reducible apply Tr.x_mk0_2); (exact rfl))
  | ((with_reducible apply Tr.x_mk2_0); (exact rfl))
  | with_reducible refine Tr.x_isI ?_
  | with_reducible refine Tr.x_isIt ?_
  | with_reducible refine Tr.x_eqo ?_
  | ((with_reducible apply Tr.x_eqoI); (first | exact rfl | exact True.intro))
  | with_reducible refine Tr.x_nseq ?_
  | with_reducible refine Tr.x_nset ?_
  | ((with_reducible apply Tr.x_nsetv); (decide +kernel); (decide +kernel); (simp only [List.cons_append, List.nil_append]; exact rfl); (simp only [List.cons_append, List.nil_append]; exact rfl))
  | ((with_reducible apply Tr.x_var); exact rfl)
  | with_reducible refine Tr.xx_N ?_
  | with_reducible refine Tr.xx_L ?_
  | with_reducible refine Tr.xx_make ?_
  | ((with_reducible refine Tr.xx_mv rfl ?_); (simp only [List.map_nil, List.map_cons, List.append_nil, List.cons_append, List.nil_append]))
  | with_reducible refine Tr.xx_meth ?_
  | ((with_reducible refine Tr.xx_mt ?_ ?_); (decide +kernel))
  | ((with_reducible refine Tr.xx_uv rfl ?_); (simp only [List.map_nil, List.map_cons, List.append_nil, List.cons_append, List.nil_append]))
  | with_reducible refine Tr.xx_nseq ?_
  | with_reducible refine Tr.xx_nif ?_
  | with_reducible refine Tr.xx_nL ?_
  | with_reducible refine Tr.xx_nraise ?_
  | with_reducible refine Tr.xx_is2s ?_)
local macro_rules | `(tactic| left) => `(tactic| first
  | with_reducible refine Tr.x_next ?_
  | with_reducible refine Tr.x_asg ?_
  | with_reducible refine Tr.x_st1 ?_
  | with_reducible refine Tr.x_ift ?_
  | with_reducible refine Tr.x_iff ?_
  | with_reducible refine Tr.x_retK ?_
  | with_reducible refine Tr.x_appv ?_
  | with_reducible refine Tr.x_B ?_
  | with_reducible refine Tr.x_not ?_
  | with_reducible refine Tr.x_or ?_
  | with_reducible refine Tr.x_tru ?_
  | with_reducible refine Tr.x_trub ?_
  | with_reducible refine Tr.x_andV ?_
  | with_reducible refine Tr.x_bo ?_
  | with_reducible refine Tr.x_v1 ?_
  | with_reducible refine Tr.x_v2 ?_
  | with_reducible refine Tr.x_v5 ?_
  | with_reducible refine Tr.x_v8 ?_
  | with_reducible refine Tr.x_tup ?_
  | with_reducible refine Tr.x_Lst ?_
  | with_reducible refine Tr.x_tup1 ?_
  | with_reducible refine Tr.x_L ?_
  | ((with_reducible apply Tr.x_call1_0); (exact rfl))
  | ((with_reducible apply Tr.x_call2_0); (exact rfl))
  | with_reducible refine Tr.x_fld ?_
  | ((with_reducible apply Tr.x_fldI); (exact rfl))
  | with_reducible refine Tr.xx_seq ?_
  | with_reducible refine Tr.xx_if ?_
  | with_reducible refine Tr.xx_drop ?_
  | with_reducible refine Tr.xx_raise ?_
  | with_reducible refine Tr.xx_met ?_
  | ((with_reducible apply Tr.xx_hit); (assumption); (decide +kernel))
  | ((with_reducible apply Tr.xx_miss); (assumption); (decide +kernel); (decide +kernel); (decide +kernel)))
local macro_rules | `(tactic| left) => `(tactic| first
  | with_reducible refine Tr.x_seq ?_
  | with_reducible refine Tr.x_if ?_
  | with_reducible refine Tr.x_ret ?_
  | ((with_reducible apply Tr.x_app); (exact rfl); (first | omega | (simp only [List.length_map, List.length_append, List.length_cons, List.length_nil, List.length_replicate, List.length_drop, List.length_take, List.length_set]; omega) | decide))
  | with_reducible refine Tr.x_v0 ?_
  | with_reducible refine Tr.x_C ?_
  | with_reducible refine Tr.x_op ?_
  | with_reducible refine Tr.x_opvv ?_
  | with_reducible refine Tr.x_nil ?_
  | with_reducible refine Tr.x_cons ?_
  | with_reducible refine Tr.x_cb ?_
  | with_reducible refine Tr.x_call ?_
  | with_reducible refine Tr.xx_call ?_
  | ((with_reducible refine Tr.xx_cv rfl ?_); (simp only [List.map_nil, List.map_cons, List.append_nil, List.cons_append, List.nil_append])))
local macro_rules | `(tactic| left) => `(tactic| first
  | with_reducible refine Tr.x_metA ?_
  | with_reducible refine Tr.x_raiseF ?_
  | with_reducible refine Tr.x_rfv ?_
  | ((with_reducible apply Tr.x_hitA); (assumption); (decide +kernel); (intro _ _))
  | ((with_reducible apply Tr.x_hitS); (assumption); (decide +kernel); (intro _ _; dsimp only [List.replicate, List.set]))
  | ((with_reducible apply Tr.x_missA); (assumption); (decide +kernel); (decide +kernel); (decide +kernel))
  | with_reducible refine Tr.x_xf rfl ?_
  | with_reducible refine Tr.x_cvv rfl ?_
  | with_reducible refine Tr.x_forX ?_
  | with_reducible refine Tr.x_isX ?_
  | with_reducible refine Tr.x_isXi ?_
  | with_reducible refine Tr.x_isXt ?_
  | with_reducible refine Tr.x_isXl ?_
  | with_reducible refine Tr.x_isXn ?_
  | with_reducible refine Tr.x_isXs ?_
  | with_reducible refine Tr.x_isXz ?_
  | with_reducible refine Tr.x_isXb ?_
  | with_reducible refine Tr.x_isXd ?_
  | with_reducible refine Tr.x_methA ?_
  | ((with_reducible refine Tr.x_maI ?_ ?_); (decide +kernel))
  | ((with_reducible refine Tr.x_mav rfl ?_); (simp only [List.map_nil, List.map_cons, List.append_nil, List.cons_append, List.nil_append]))
  | with_reducible refine Tr.x_callA ?_
  | ((with_reducible refine Tr.x_cav rfl ?_); (simp only [List.map_nil, List.map_cons, List.append_nil, List.cons_append, List.nil_append])))
local macro_rules | `(tactic| left) => `(tactic| first
  | with_reducible refine Tr.x_rgD ?_
  | ((with_reducible apply Tr.x_rgDv); (first | omega | (simp only [List.length_map, List.length_append, List.length_cons, List.length_nil, List.length_replicate, List.length_drop, List.length_take, List.length_set]; omega) | decide); (first | omega | (simp only [List.length_map, List.length_append, List.length_cons, List.length_nil, List.length_replicate, List.length_drop, List.length_take, List.length_set]; omega) | decide); (first | omega | (simp only [List.length_map, List.length_append, List.length_cons, List.length_nil, List.length_replicate, List.length_drop, List.length_take, List.length_set]; omega) | decide); (first | omega | (simp only [List.length_map, List.length_append, List.length_cons, List.length_nil, List.length_replicate, List.length_drop, List.length_take, List.length_set]; omega) | decide))
  | with_reducible refine Tr.x_srtS ?_
  | with_reducible refine Tr.x_srtU ?_)
local macro_rules | `(tactic| left) => `(tactic| first
  | with_reducible refine Tr.x_sortedT ?_
  | with_reducible refine Tr.x_try ?_
  | with_reducible refine Tr.x_asgX ?_
  | with_reducible refine Tr.x_kin ?_
  | with_reducible refine Tr.x_asgL ?_
  | with_reducible refine Tr.x_asgL2 ?_
  | with_reducible refine Tr.x_upper ?_
  | with_reducible refine Tr.x_ddisp ?_)
namespace My
open PySem PySem.Spec PyProof.Rows L2 Tr
variable [Tabl]

open PySem PySem.Spec PyProof.Rows L2 Tr
variable [Tabl]

open PySem PySem.Spec PyProof.Rows L2 Tr
variable [Tabl]

open PySem PySem.Spec PyProof.Rows L2 Tr
variable [Tabl]

open PySem PySem.Spec PyProof.Rows L2 Tr
variable [Tabl]

open PySem PySem.Spec PyProof.Rows L2 Tr
section
variable {P : Sl → Prop} {x y : T} {lo hi s m u : Int}
abbrev B (b : Bool) : Sl := .val (.bl b)
abbrev I (i : Int) : Sl := .val (.int i)
/-- no instance, no class -/
def plain : T → Bool
  | .ins _ _ _ => false
  | .ty _ => false
  | .fn _ => false
  | .exc _ _ _ _ => false
  | _ => true
def isWhole : T → Bool
  | .int i => decide (-999999999999999999999999999999999999999999999999999999999999 ≤ i) && decide (i ≤ 999999999999999999999999999999999999999999999999999999999999)
  | _ => false
def isWithin (x : T) (lo hi : Int) : Bool := match x with
  | .int i => isWhole (.int i) && (decide (lo ≤ i) && decide (i ≤ hi))
  | _ => false
@[simp] theorem eqT_int {i j : Int} : eqT (.int i) (.int j) = some (.bl (decide (i = j))) := rfl
@[simp] theorem neT_int {i j : Int} : neT (.int i) (.int j) = some (.bl (!decide (i = j))) := rfl
theorem r_is_whole (h : plain x = true) (p : P (B (isWhole x))) : w_is_whole [.val x] P := by
  refine ⟨rfl, ?_⟩
  cases x <;> first | (cases h; done) | simp [-Bool.exists_bool, -Bool.not_eq_eq_eq_not]
  case int i =>
    have p' : P (.val (.bl (decide (-999999999999999999999999999999999999999999999999999999999999 ≤ i) && decide (i ≤ 999999999999999999999999999999999999999999999999999999999999)))) := p
    by_cases h1 : -999999999999999999999999999999999999999999999999999999999999 ≤ i
    · rw [decide_eq_true h1] at p'
      rw [if_pos h1]
      exact p'
    · rw [decide_eq_false h1] at p'
      rw [if_neg h1]
      exact p'
  all_goals exact p
theorem r_is_within (h : plain x = true) (p : P (B (isWithin x lo hi))) : w_is_within [.val x, I lo, I hi] P := by
  refine ⟨rfl, ?_⟩
  simp [-Bool.exists_bool, -Bool.not_eq_eq_eq_not]
  refine r_is_whole h ?_
  refine ⟨_, rfl, ?_⟩
  cases hw : isWhole x with
  | false =>
    cases x with
    | int i =>
      have p' : P (B (isWhole (.int i) && (decide (lo ≤ i) && decide (i ≤ hi)))) := p
      rw [hw] at p'
      exact p'
    | _ => exact p
  | true =>
    cases x with
    | int i =>
      have p' : P (B (isWhole (.int i) && (decide (lo ≤ i) && decide (i ≤ hi)))) := p
      rw [hw] at p'
      simp [-Bool.exists_bool, -Bool.not_eq_eq_eq_not]
      by_cases h1 : lo ≤ i
      · rw [if_pos h1]
        rw [decide_eq_true h1] at p'
        exact p'
      · rw [if_neg h1]
        rw [decide_eq_false h1] at p'
        exact p'
    | _ => cases hw
theorem allB {α : Type} (f : α → Bool) (ts : List α) : ((ts.map f).all id) = ts.all f := by
  rw [List.all_map]
  rfl
theorem wideL {i j : Int} (h : i.natAbs < 2 ^ 64) : wide i j = true := by
  unfold wide
  rw [Bool.or_eq_true, Bool.or_eq_true]
  exact .inl (.inl (decide_eq_true h))
theorem wideR {i j : Int} (h : j.natAbs < 2 ^ 64) : wide i j = true := by
  unfold wide
  rw [Bool.or_eq_true, Bool.or_eq_true]
  exact .inl (.inr (decide_eq_true h))
theorem mul_ok {i j : Int} (h : wide i j = true) : mulT (.int i) (.int j) = some (.int (i * j)) := by
  rw [mulT_int, if_pos h]
theorem mod_ok {i j : Int} (h : 0 < j) : modT (.int i) (.int j) = some (.int (i % j)) := by
  rw [modT_int, if_pos (decide_eq_true h)]
theorem div_ok {i j : Int} (h : divOk j = true) : divT (.int i) (.int j) = some (.int (i / j)) := by
  rw [divT_int, if_pos h]
theorem log2s {n : Int} (h0 : 0 < n) (h : n < 2 ^ 64) : n.natAbs.log2 < 9000 := Nat.lt_of_lt_of_le (PySem.Flt.log2_lt_of (k := 64) (by decide) (by omega)) (by decide)
theorem r__law_roll {n : Int} (h0 : 0 < n) (hl : n.natAbs.log2 < 9000) (p : ∀ r : Int, 0 ≤ r → r < n → P (I r)) : w__law_roll [.dice, I n] P := by
  refine ⟨rfl, ?_⟩
  simp [-Bool.exists_bool, -Bool.not_eq_eq_eq_not]
  have hd : divOk n = true := by
    unfold divOk
    rw [Bool.and_eq_true]
    exact ⟨decide_eq_true h0, decide_eq_true hl⟩
  intro a
  split
  · intro a2
    exact ⟨_, ⟨h0, rfl⟩, fun a3 => ⟨_, ⟨hd, rfl⟩, ⟨_, rfl⟩, p _ (Int.emod_nonneg _ (by omega)) (Int.emod_lt_of_pos _ h0)⟩⟩
  · intro b c
    refine ⟨_, ⟨wideL (by decide), rfl⟩, _, rfl, _, rfl, _, mod_ok (by decide), _, mul_ok (wideL ?_), fun d => ⟨_, ⟨wideL (by decide), rfl⟩, _, rfl, _, rfl, _, mod_ok (by decide), _, mul_ok (wideR (by decide)), _, rfl, _, div_ok (by decide +kernel), _, rfl, _, mod_ok h0, p _ (Int.emod_nonneg _ (by omega)) (Int.emod_lt_of_pos _ h0)⟩⟩
    have := Int.emod_lt_of_pos (b + 68718953 * c) (show (0 : Int) < 2305843009213693487 by decide)
    have := Int.emod_nonneg (b + 68718953 * c) (show (2305843009213693487 : Int) ≠ 0 by decide)
    omega
end
section
variable {P : Sl → Prop} {x y : T} {lo hi s u : Int} {m : Nat}
/-- data of numbers, at most n deep -/
def sh : Nat → T → Bool
  | _, .non => true
  | _, .bl _ => true
  | _, .int _ => true
  | _, .str x => x.cps.all (· < 0x110000)
  | n + 1, .tup ts => ts.all (sh n)
  | n + 1, .lst ts => ts.all (sh n)
  | _, _ => false
theorem sh_all {n : Nat} {f : T → Option PyData} (h : ∀ t, sh n t = true → ∃ d, dat t = some d ∧ d.canLay0 = true ∧ d.depth ≤ n) : ∀ ts : List T, (∀ t ∈ ts, sh n t = true) → ∃ ds, datAll ts = some ds ∧ PyData.canLayAll0 ds = true ∧ PyData.depthAll ds ≤ n
  | [], _ => ⟨[], by simp only [datAll], by simp only [PyData.canLayAll0], by simp only [PyData.depthAll]; omega⟩
  | t :: r, k => by
    obtain ⟨d, e1, h1, l1⟩ := h t (k t List.mem_cons_self)
    obtain ⟨ds, e2, h2, l2⟩ := sh_all (f := f) h r fun u hu => k u (List.mem_cons_of_mem _ hu)
    refine ⟨d :: ds, ?_, ?_, ?_⟩
    · simp only [datAll]
      rw [e1, e2]
      rfl
    · simp only [PyData.canLayAll0]
      rw [h1, h2]
      rfl
    · simp only [PyData.depthAll]
      omega
theorem sh_dat : ∀ (n : Nat) (t : T), sh n t = true → ∃ d, dat t = some d ∧ d.canLay0 = true ∧ d.depth ≤ n
  | n, .non, _ => ⟨.none, by simp only [dat], by simp only [PyData.canLay0], by simp only [PyData.depth]; omega⟩
  | n, .bl b, _ => ⟨.bool b, by simp only [dat], by simp only [PyData.canLay0], by simp only [PyData.depth]; omega⟩
  | n, .int i, _ => ⟨.int i, by simp only [dat], by simp only [PyData.canLay0], by simp only [PyData.depth]; omega⟩
  | n, .str x, h => ⟨.str x, by simp only [dat], by
      simp only [PyData.canLay0, PyData.strOk]
      cases n <;> exact h, by simp only [PyData.depth]; omega⟩
  | n + 1, .tup ts, h => by
    obtain ⟨ds, e, h2, l⟩ := sh_all (f := dat) (sh_dat n) ts (fun t ht => List.all_eq_true.mp (show ts.all (sh n) = true from h) t ht)
    refine ⟨.tuple ds, ?_, ?_, ?_⟩
    · simp only [dat]
      rw [e]
      rfl
    · simp only [PyData.canLay0]
      exact h2
    · simp only [PyData.depth]
      omega
  | n + 1, .lst ts, h => by
    obtain ⟨ds, e, h2, l⟩ := sh_all (f := dat) (sh_dat n) ts (fun t ht => List.all_eq_true.mp (show ts.all (sh n) = true from h) t ht)
    refine ⟨.list ds, ?_, ?_, ?_⟩
    · simp only [dat]
      rw [e]
      rfl
    · simp only [PyData.canLay0]
      exact h2
    · simp only [PyData.depth]
      omega
  | 0, .tup _, h => by cases h
  | 0, .lst _, h => by cases h
  | 0, .scr _, h => by cases h
  | _ + 1, .scr _, h => by cases h
  | 0, .dct _ _, h => by cases h
  | _ + 1, .dct _ _, h => by cases h
  | 0, .ins _ _ _, h => by cases h
  | _ + 1, .ins _ _ _, h => by cases h
  | 0, .ty _, h => by cases h
  | _ + 1, .ty _, h => by cases h
  | 0, .fn _, h => by cases h
  | _ + 1, .fn _, h => by cases h
  | 0, .exc _ _ _ _, h => by cases h
  | _ + 1, .exc _ _ _ _, h => by cases h
theorem sh_shp {t : T} (h : sh 8 t = true) : shp t = true := by
  obtain ⟨d, e, h1, h2⟩ := sh_dat 8 t h
  unfold shp
  rw [e]
  show (d.canLay0 && decide (d.depth ≤ 64)) = true
  rw [Bool.and_eq_true]
  exact ⟨h1, decide_eq_true (by omega)⟩
theorem eqB_self {t : T} (h : sh 8 t = true) : eqB t t = true := by
  obtain ⟨d, e, h1, h2⟩ := sh_dat 8 t h
  unfold eqB
  rw [e]
  exact PySem.SeqAt.eqv_refl d h1
theorem eqT_self {t : T} (h : sh 8 t = true) : eqT t t = some (.bl true) := by
  unfold Tr.eqT
  rw [sh_shp h, eqB_self h]
  rfl
theorem hp_dice : ∀ xs, preDice xs → xs.length = 2 ∧ w__law_dice (xs ++ List.replicate 2 .any) fun ts => ∃ a b c : Int, ts = [.int a, .int b, .int c] := by
  intro xs h
  obtain ⟨ns, s, rfl, hn, s0, s1⟩ := h
  refine ⟨rfl, ?_⟩
  have c1 : ∀ x : Int, wide 83 x = true := fun x => wideL (by decide)
  have c2 : ∀ x : Int, wide 1009 x = true := fun x => wideL (by decide)
  have c3 : ∀ x : Int, wide 53 x = true := fun x => wideL (by decide)
  have c4 : ∀ x : Int, wide x 97 = true := fun x => wideR (by decide)
  have k1 : powOk 10 58 = true := by decide +kernel
  have k2 : powOk 10 60 = true := by decide +kernel
  have k3 : powOk 10 16 = true := by decide +kernel
  obtain ⟨W, eW, hW⟩ : ∃ W : Int, mulT (.int 10000000000000000000000000000000000000000000000000000000000) (.int 1000000000000000000000000000000000000000000000000000000000000) = some (.int W) ∧ 0 < W := ⟨_, mulT_int.trans (if_pos (by decide +kernel)), by decide +kernel⟩
  have c5 : ∀ x : Int, modT (.int x) (.int W) = some (.int (x % W)) := fun x => mod_ok hW
  by_cases h : s < (ns.length : Int)
  · obtain ⟨v, hv⟩ : ∃ v : Int, atI (ns.map T.int) s = some (.int v) := by
      have hr : s.toNat < ns.length := by omega
      exact ⟨ns[s.toNat], atI_ok s0 (by rw [List.getElem?_map, List.getElem?_eq_getElem hr]; rfl)⟩
    simp [-Bool.exists_bool, -Bool.not_eq_eq_eq_not, w__law_dice, wrSeq, c1, c2, c3, c4, c5, k1, k2, k3, eW, h, hv]
  · simp [-Bool.exists_bool, -Bool.not_eq_eq_eq_not, w__law_dice, wrSeq, c1, c2, c3, c4, c5, k1, k2, k3, eW, h]
end





end My
namespace Tr
open PySem PySem.Spec PyProof.Rows L2 Tr
variable [Tabl]

open PySem PySem.Spec PyProof.Rows L2 Tr
variable [Tabl]

open PySem PySem.Spec PyProof.Rows L2 Tr
variable [Tabl]

open PySem PySem.Spec PyProof.Rows L2 Tr
variable [Tabl]

open PySem PySem.Spec PyProof.Rows L2 Tr
variable [Tabl]

section
variable {sl : List Sl} {P : Sl → Prop}
open PySem PySem.Spec PyProof.Rows L2
@[simp] theorem wiStr_e {a : WE} {Q : List T → Prop} : wiStr a sl Q = a sl fun x => ∃ z, x = .val (.str z) ∧ Q (sgnT z) := rfl
@[simp] theorem lenT_str {x : Str} : lenT [.str x] = if few x.length = true then some (.int x.length) else none := rfl
@[simp] theorem ordT_str {x : Str} : ordT [.str x] = if x.length = 1 then some (.int (x.cps.getD 0 0 : Nat)) else none := rfl
end





end Tr
namespace My
open PySem PySem.Spec PyProof.Rows L2 Tr
variable [Tabl]

open PySem PySem.Spec PyProof.Rows L2 Tr
variable [Tabl]

open PySem PySem.Spec PyProof.Rows L2 Tr
variable [Tabl]

open PySem PySem.Spec PyProof.Rows L2 Tr
variable [Tabl]

open PySem PySem.Spec PyProof.Rows L2 Tr
variable [Tabl]

open PySem PySem.Spec PyProof.Rows L2 Tr
section
variable {P : Sl → Prop} {x y : T} {k : Ks} {sl : List Sl}
/-- a comprehension over a list told by α -/
theorem collF {α : Type} (g f : α → T) {we : WE} {Q : List T → Prop} {i : Nat} : ∀ (as : List α) (acc : List T), (∀ a ∈ as, ∀ R : Sl → Prop, R (.val (f a)) → we (sl.set i (.val (g a))) R) → Q (acc ++ as.map f) → wColl (.name i) wYes we sl Q (as.map g) acc
  | [], acc, _, q => by
    rw [List.map_nil, List.append_nil] at q
    exact q
  | n :: r, acc, h, q => by
    refine ⟨_, rfl, ?_⟩
    show we (sl.set i (.val (g n))) fun y => ∃ u, y = .val u ∧ wColl (.name i) wYes we sl Q (r.map g) (acc ++ [u])
    refine h n List.mem_cons_self _ ⟨f n, rfl, collF g f r _ (fun m hm => h m (List.mem_cons_of_mem _ hm)) ?_⟩
    rw [List.append_assoc]
    exact q
theorem bl_map {α : Type} {as : List α} {f : α → Bool} : allT [.lst (as.map fun a => T.bl (f a))] = some (.bl (as.all f)) := by
  have : as.map (fun a => T.bl (f a)) = (as.map f).map T.bl := by rw [List.map_map]; rfl
  rw [this, allT_bls, allB]
def okC (c : Nat) : Bool := decide (32 ≤ c) && decide (c ≤ 126)
def okB (b : Str) : Bool := (decide (1 ≤ (b.length : Int)) && decide ((b.length : Int) ≤ 1000)) && b.cps.toList.all okC
def isBlock : T → Bool
  | .str z => okB z
  | _ => false
theorem sgn_len (z : Str) : (sgnT z).length = z.length := by
  unfold sgnT
  rw [List.length_map, Array.length_toList]
  rfl
abbrev sL (l : List Str) : List T := l.map T.str
def small (x : T) : Prop := plain x = true ∧ ∀ z, x = .str z → z.length ≤ 100000
/-! blocks on a disk -/
theorem okB_len {b : Str} (h : okB b = true) : 1 ≤ b.length ∧ b.length ≤ 1000 := by
  unfold okB at h
  rw [Bool.and_eq_true, Bool.and_eq_true] at h
  have h1 := of_decide_eq_true h.1.1
  have h2 := of_decide_eq_true h.1.2
  omega
def okL (l : List Str) : Prop := ∀ b ∈ l, okB b = true
theorem okL.small {l : List Str} (h : okL l) : ∀ t ∈ sL l, small t := fun t ht => by
  obtain ⟨b, hb, rfl⟩ := List.mem_map.mp ht
  exact ⟨rfl, fun z e => by cases e; have := (okB_len (h b hb)).2; omega⟩
theorem okL.all {l : List Str} (h : okL l) : (sL l).all isBlock = true := List.all_eq_true.mpr fun t ht => by
  obtain ⟨b, hb, rfl⟩ := List.mem_map.mp ht
  exact h b hb
theorem okL.one {b : Str} (h : okB b = true) : okL [b] := fun c hc => by rw [List.mem_singleton.mp hc]; exact h
/-- the product of the lengths and one -/
def numF (a : Int) (w : List Str) : Int := w.foldl (fun n b => n * ((b.length : Int) + 1)) a
abbrev num (w : List Str) : Int := numF 1 w
end


open PySem PySem.Spec PyProof.Rows L2 Tr
section
variable {P : Sl → Prop} {x y : T} {k : Ks} {sl : List Sl} {cN : Str → Addr} {s w s' w' : List Str} {b : Str}
/-! a disk -/
abbrev names : List Str := ["sure", "waiting", "blocks", "fall_number"]
abbrev dF (s w : List Str) : List T := [.tup (sL s), .tup (sL w), .tup (sL (s ++ w)), .int (num w)]
abbrev dsk (C : Addr) (s w : List Str) : T := .ins C names (dF s w)
structure Ok (s w : List Str) : Prop where
  os : okL s
  ow : okL w
  le : s.length + w.length ≤ 1000
/-! texts are equal -/
end


open PySem PySem.Spec PyProof.Rows L2 Tr
section
variable {P : Sl → Prop} {x y : T} {k : Ks} {sl : List Sl} {cN : Str → Addr} {s w s' w' : List Str} {b : Str}
/-! what a fall leaves -/
def leftF : List Str → List Int → List Str
  | b :: w, n :: ns => if 0 < n then cutS b none (some n) :: leftF w ns else leftF w ns
  | _, _ => []
def okK (ns : List Int) : Prop := ns.length ≤ 1000 ∧ ∀ n ∈ ns, 0 ≤ n ∧ n ≤ 1000
def isKept : T → Bool
  | .tup ts => ts.all fun t => isWithin t 0 1000
  | _ => false
/-! the law's own -/
def lB : WS := (wSeq (wAsg (wIfE (wB (wOp ltT (wVar 3) (wCB lenT (waCons (wVar 1) waNil)))) (wOp ixT (wVar 1) (wVar 3)) (wC (.int 0))) 5) (wIf (wB (wOp gtT (wVar 5) (wC (.int 0)))) (wApp 2 (wSl (wVar 4) woNone (woSome (wVar 5)))) wNext))
end


open PySem PySem.Spec PyProof.Rows L2 Tr SX
section
variable {P : Sl → Prop} {x y : T} {k : Ks} {sl : List Sl} {cN : Str → Addr} {s w s' w' : List Str} {b : Str}
theorem r_pick_lst {ts : List T} (h0 : 0 < ts.length) (h1 : ts.length ≤ 1000) (p : ∀ t ∈ ts, P (.val t)) : w__law_pick [.dice, .val (.lst ts)] P := by
  refine ⟨rfl, ?_⟩
  refine (show wRet _ _ _ from ⟨fun z => (nomatch z), fun z => (nomatch z), fun z => (nomatch z), _, _, rfl, lenT_lst, rfl, r__law_roll (n := (ts.length : Int)) (by omega) (log2s (by omega) (by omega)) fun r r0 r1 => ?_⟩)
  have hr : r.toNat < ts.length := by omega
  exact ⟨_, _, _, rfl, rfl, atI_ok r0 (List.getElem?_eq_getElem hr), p _ (List.getElem_mem hr)⟩
def okS (t : T) : Prop := ∃ c, t = .str (S [c]) ∧ okC c = true
end


open PySem PySem.Spec PyProof.Rows L2 Tr SX
section
variable {P : Sl → Prop} {x y : T} {k : Ks} {sl : List Sl} {cN : Str → Addr} {s w s' w' : List Str} {b : Str}
def kpE : WE := (wCall w__law_pick [] (waCons (wVar 0) (waCons (wL (wLst (waCons (wC (.int 0)) (waCons (wC (.int 0)) (waCons (wC (.int 1)) (waCons (wCB lenT (waCons (wVar 3) waNil)) (waCons (wCB lenT (waCons (wVar 3) waNil)) (waCons (wCB max2T (waCons (wC (.int 0)) (waCons (wOp subT (wCB lenT (waCons (wVar 3) waNil)) (wC (.int 1))) waNil))) (waCons (wC (.int 1000)) (waCons (wCall w__law_roll [] (waCons (wVar 0) (waCons (wOp addT (wCB lenT (waCons (wVar 3) waNil)) (wC (.int 1))) waNil))) waNil)))))))))) waNil)))
end


open PySem PySem.Spec PyProof.Rows L2 Tr SX
section
variable {P : Sl → Prop} {x y : T} {k : Ks} {sl : List Sl} {cN : Str → Addr} {s w s' w' : List Str} {b : Str}
/-! the text -/
def txt (a b : Int) : Str := ((((("disk of " : Str) ++ (toString a : Str)) ++ (" blocks, " : Str)) ++ (toString b : Str)) ++ (" waiting" : Str))
theorem l1 : ("disk of " : Str).length ≤ 20 := by decide +kernel
theorem l2 : (" blocks, " : Str).length ≤ 20 := by decide +kernel
abbrev stT (s w : List Str) : T := .tup [.lst (sL s), .lst (sL w)]
end


open PySem PySem.Spec PyProof.Rows L2 Tr SX
section
variable {P : Sl → Prop} {x y : T} {k : Ks} {sl : List Sl} {cN : Str → Addr} {s w s' w' e : List Str} {b : Str}
/-! values near -/
def sgs (b : Str) : List T := [.str b, .str (b ++ ("\n" : Str)), .str "", .str " ", .str "~", .str (cutS b none (some 0)), .non, .int 5, .tup [.str "a"], .str (Txt.mul ("a" : Str) 1000), .str (Txt.mul ("a" : Str) 1001), .lst [.str "a"], .dct [] [], .bl true]
def sgd : List T := [.bl true, .bl false, .bl false, .bl true, .bl true, .bl false, .bl false, .bl false, .bl false, .bl true, .bl false, .bl false, .bl false, .bl false]
def kps : List T := [.tup [], .tup [.int 0], .tup [.int 1000, .int 0, .int 5], .tup [.int 1001], .tup [.int (-1)], .tup [.bl true], .lst [.int 0], .non, .tup [.int 0, .str "1"], .int 0, .tup (List.replicate 300 [.int 0]).flatten, .tup [.non]]
def kpd : List T := [.bl true, .bl true, .bl true, .bl false, .bl false, .bl false, .bl false, .bl false, .bl false, .bl false, .bl true, .bl false]
end


open PySem PySem.Spec PyProof.Rows L2 Tr

open PySem PySem.Spec PyProof.Rows L2 Tr
section
variable {P : Sl → Prop} {x y : T} {lo hi s m u : Int}
end
section
variable {P : Sl → Prop} {x y : T} {lo hi s u : Int} {m : Nat}
end






end My
namespace Tr
open PySem PySem.Spec PyProof.Rows L2 Tr
variable [Tabl]

open PySem PySem.Spec PyProof.Rows L2 Tr
variable [Tabl]

open PySem PySem.Spec PyProof.Rows L2 Tr
variable [Tabl]

open PySem PySem.Spec PyProof.Rows L2 Tr
variable [Tabl]

open PySem PySem.Spec PyProof.Rows L2 Tr
variable [Tabl]

open PySem PySem.Spec PyProof.Rows L2 Tr

section
variable {sl : List Sl} {P : Sl → Prop}
open PySem PySem.Spec PyProof.Rows L2
end






end Tr
namespace My
open PySem PySem.Spec PyProof.Rows L2 Tr
variable [Tabl]

open PySem PySem.Spec PyProof.Rows L2 Tr
variable [Tabl]

open PySem PySem.Spec PyProof.Rows L2 Tr
variable [Tabl]

open PySem PySem.Spec PyProof.Rows L2 Tr
variable [Tabl]

open PySem PySem.Spec PyProof.Rows L2 Tr
variable [Tabl]

open PySem PySem.Spec PyProof.Rows L2 Tr

open PySem PySem.Spec PyProof.Rows L2 Tr
section
variable {P : Sl → Prop} {x y : T} {k : Ks} {sl : List Sl}
end


open PySem PySem.Spec PyProof.Rows L2 Tr
section
variable {P : Sl → Prop} {x y : T} {k : Ks} {sl : List Sl} {cN : Str → Addr} {s w s' w' : List Str} {b : Str}
end


open PySem PySem.Spec PyProof.Rows L2 Tr
section
variable {P : Sl → Prop} {x y : T} {k : Ks} {sl : List Sl} {cN : Str → Addr} {s w s' w' : List Str} {b : Str}
end


open PySem PySem.Spec PyProof.Rows L2 Tr SX
section
variable {P : Sl → Prop} {x y : T} {k : Ks} {sl : List Sl} {cN : Str → Addr} {s w s' w' : List Str} {b : Str}
end


open PySem PySem.Spec PyProof.Rows L2 Tr SX
section
variable {P : Sl → Prop} {x y : T} {k : Ks} {sl : List Sl} {cN : Str → Addr} {s w s' w' : List Str} {b : Str}
end


open PySem PySem.Spec PyProof.Rows L2 Tr SX
section
variable {P : Sl → Prop} {x y : T} {k : Ks} {sl : List Sl} {cN : Str → Addr} {s w s' w' : List Str} {b : Str}
/-! beginnings -/
def sw (d b : Str) : Bool := decide (cutS d none (some (b.length : Int)) = b)
/-! the greedy choice -/
def kept : List Str → List Str → Option (List Int)
  | _, [] => some []
  | [], _ :: _ => none
  | d :: w, b :: r => if sw d b = true then (kept w r).map ((b.length : Int) :: ·) else (kept w (b :: r)).map ((0 : Int) :: ·)
def g (w r : List Str) : Bool := (kept w r).isSome
theorem g_cons {d b : Str} {w r : List Str} : g (d :: w) (b :: r) = if sw d b = true then g w r else g w (b :: r) := by
  unfold g
  rw [kept]
  by_cases h : sw d b = true
  · rw [if_pos h, if_pos h, Option.isSome_map]
  · rw [if_neg h, if_neg h, Option.isSome_map]
theorem g_len : ∀ (w r : List Str), g w r = true → r.length ≤ w.length
  | _, [], _ => Nat.zero_le _
  | [], _ :: _, h => by cases h
  | d :: w, b :: r, h => by
    rw [g_cons] at h
    by_cases e : sw d b = true
    · rw [if_pos e] at h
      have := g_len w r h
      rw [List.length_cons, List.length_cons]
      omega
    · rw [if_neg e] at h
      have := g_len w (b :: r) h
      rw [List.length_cons] at this
      rw [List.length_cons, List.length_cons]
      omega
/-! states -/
abbrev St2 := List Str × List Str
def can (p : St2) (r : List Str) : Bool := decide (r.take p.1.length = p.1) && g p.2 (r.drop p.1.length)
def stepF (p : St2) : Option Str → St2
  | none => (p.1 ++ p.2, [])
  | some b => (p.1, p.2 ++ [b])
def scan (p : St2) : List (Option Str) → List St2
  | [] => [p]
  | o :: r => p :: scan (stepF p o) r
def dead (p : St2) (r : List Str) : Prop := r.take p.1.length ≠ p.1
/-- the moments, from k on -/
def fnd (row : List Str) : Nat → List St2 → List Nat
  | _, [] => []
  | k, p :: r => if can p row = true then k :: fnd row (k + 1) r else fnd row (k + 1) r
end


open PySem PySem.Spec PyProof.Rows L2 Tr SX
section
variable {P : Sl → Prop} {x y : T} {k : Ks} {sl : List Sl} {cN : Str → Addr} {s w s' w' : List Str} {b : Str}
/-! steps -/
abbrev stp : Option Str → T
  | none => .tup [.str "sync"]
  | some b => .tup [.str "put", .str b]
def okO (o : Option Str) : Prop := ∀ b, o = some b → okB b = true
/-! the disks -/
abbrev dP (C : Addr) (p : St2) : T := dsk C p.1 p.2
structure OkS (p : St2) (m : Nat) : Prop where
  os : okL p.1
  ow : okL p.2
  le : p.1.length + p.2.length ≤ m
theorem OkS.ok {p : St2} {m : Nat} (h : OkS p m) (hm : m ≤ 1000) : Ok p.1 p.2 := ⟨h.os, h.ow, by have := h.le; omega⟩
abbrev p0 : St2 := ([], [])
/-! the greedy choice, in the program -/
abbrev iL (ns : List Int) : List T := ns.map T.int
/-- what goes by until a block can be a beginning -/
def skip (b : Str) : List Str → List Str
  | [] => []
  | d :: w => if sw d b = true then d :: w else skip b w
theorem okL.take {l : List Str} (h : okL l) (n : Nat) : okL (l.take n) := fun b hb => h b (List.mem_of_mem_take hb)
theorem okL.drop {l : List Str} (h : okL l) (n : Nat) : okL (l.drop n) := fun b hb => h b (List.mem_of_mem_drop hb)
def kfC (cN : Str → Addr) : WT := (wAnd (wB (wOp ltT (wCB lenT (waCons (wVar 3) waNil)) (wCB lenT (waCons (wFld (cN "Disk") "waiting" (wVar 0)) waNil)))) (wNot (wTru (wSw (wOp ixT (wFld (cN "Disk") "waiting" (wVar 0)) (wCB lenT (waCons (wVar 3) waNil))) (wVar 4)))))
def keptT (s w r : List Str) : T := if r.take s.length = s then (match kept w (r.drop s.length) with
    | some ns => .tup (iL ns)
    | none => .non) else .non
end


open PySem PySem.Spec PyProof.Rows L2 Tr SX
section
variable {P : Sl → Prop} {x y : T} {k : Ks} {sl : List Sl} {cN : Str → Addr} {s w s' w' : List Str} {b : Str}
/-- the places at which a test holds -/
def idx {α : Type} (v : α → Bool) : Nat → List α → List Nat
  | _, [] => []
  | k, a :: r => if v a = true then k :: idx v (k + 1) r else idx v (k + 1) r
abbrev nL (ns : List Nat) : List T := ns.map fun n => T.int (n : Nat)
/-- what is told of moments -/
def toldT (ns : List Nat) : T := match ns with
  | [] => .non
  | a :: r => .tup [.int (a : Nat), .int ((a :: r).getLast (List.cons_ne_nil _ _) : Nat)]
structure OkSt (st : List (Option Str)) : Prop where
  le : st.length ≤ 300
  ok : ∀ o ∈ st, okO o
end


open PySem PySem.Spec PyProof.Rows L2 Tr SX
section
variable {P : Sl → Prop} {x y : T} {k : Ks} {sl : List Sl} {cN : Str → Addr} {s w s' w' : List Str} {b : Str}
abbrev stP (p : St2) : T := stT p.1 p.2
/-! lists of whole numbers, lists of texts, compared -/
end


open PySem PySem.Spec PyProof.Rows L2 Tr SX
section
variable {P : Sl → Prop} {x y : T} {k : Ks} {sl : List Sl} {cN : Str → Addr} {s w s' w' : List Str} {b : Str}
/-- the numbers of blocks that can be made of those so far -/
structure Rch (rest v : List Str) (ms : List Int) : Prop where
  asc : ms.Pairwise (· < ·)
  mem : ∀ k : Int, k ∈ ms ↔ 0 ≤ k ∧ k ≤ (rest.length : Int) ∧ g v (rest.take k.toNat) = true
theorem Rch.le {rest v : List Str} {ms : List Int} (h : Rch rest v ms) {m : Int} (hm : m ∈ ms) : 0 ≤ m ∧ m ≤ (v.length : Int) := by
  obtain ⟨h1, h2, h3⟩ := (h.mem m).mp hm
  have := g_len _ _ h3
  rw [List.length_take] at this
  omega
def nxt (rest : List Str) (d : Str) (m : Int) : Bool := decide (m < (rest.length : Int)) && (match rest[m.toNat]? with
  | some c => sw d c
  | none => false)
end


open PySem PySem.Spec PyProof.Rows L2 Tr SX
section
variable {P : Sl → Prop} {x y : T} {k : Ks} {sl : List Sl} {cN : Str → Addr} {s w s' w' : List Str} {b : Str}
/-! what is told of the moments, by the law -/
end


open PySem PySem.Spec PyProof.Rows L2 Tr SX
section
variable {P : Sl → Prop} {x y : T} {k : Ks} {sl : List Sl} {cN : Str → Addr} {s w s' w' : List Str} {b : Str}
def oddT : List T := [.tup [.str "sync", .int 0], .tup [.str "put"], .tup [.str "put", .str ""], .tup [.str "put", .str "a\n"], .tup [.str "put", .int 5], .str "sync", .lst [.str "sync"], .tup [.str "puts", .str "a"], .tup [], .non, .tup [.str "put", .str (Txt.mul "a" 1001)]]
end


open PySem PySem.Spec PyProof.Rows L2 Tr SX
section
variable {P : Sl → Prop} {x y : T} {k : Ks} {sl : List Sl} {cN : Str → Addr} {s w s' w' : List Str} {b : Str}
def st0 : List (Option Str) := [some "ab", none, some "cd", some "e", none]
def rows0 : List (List Str) := [["ab", "e"], ["ab"], ["a"], ["b"], ["ab", "cd", "e"], []]
end



open PySem PySem.Spec PyProof.Rows L2 Tr SX
section
variable {P : Sl → Prop} {x y : T} {k : Ks} {sl : List Sl} {cN : Str → Addr} {s w s' w' : List Str} {b : Str}
/-! what a fall leaves can be told -/
/-! values near a told fall -/
def flatV (t : T) : Bool := match t with
  | .int _ => true
  | .bl _ => true
  | .non => true
  | .str z => z.cps.all (· < 0x110000)
  | _ => false
structure Fn (v : T) : Prop where
  pl : plain v = true
  ns : ∀ ts, v ≠ .scr ts
  few : ∀ ts, v = .tup ts → ts.length ≤ 1000 ∧ ∀ t ∈ ts, flatV t = true
def intsF : List T → List Int
  | [] => []
  | .int i :: r => i :: intsF r
  | _ :: r => intsF r
def in1000 (t : T) : Bool := isWithin t 0 1000
def leaveV (s w row : List Str) (v : T) : Bool := isKept v && (match v with
  | .tup ts => decide (s ++ leftF w (intsF ts) = row)
  | _ => false)
end


open PySem PySem.Spec PyProof.Rows L2 Tr SX
section
variable {P : Sl → Prop} {x y : T} {k : Ks} {sl : List Sl} {cN : Str → Addr} {s w s' w' : List Str} {b : Str}
def badV (t : T) : Bool := !in1000 t
end


open PySem PySem.Spec PyProof.Rows L2 Tr

open PySem PySem.Spec PyProof.Rows L2 Tr
section
variable {P : Sl → Prop} {x y : T} {lo hi s m u : Int}
end
section
variable {P : Sl → Prop} {x y : T} {lo hi s u : Int} {m : Nat}
end






end My
namespace Tr
open PySem PySem.Spec PyProof.Rows L2 Tr
variable [Tabl]

open PySem PySem.Spec PyProof.Rows L2 Tr
variable [Tabl]

open PySem PySem.Spec PyProof.Rows L2 Tr
variable [Tabl]

open PySem PySem.Spec PyProof.Rows L2 Tr
variable [Tabl]

open PySem PySem.Spec PyProof.Rows L2 Tr
variable [Tabl]

open PySem PySem.Spec PyProof.Rows L2 Tr

section
variable {sl : List Sl} {P : Sl → Prop}
open PySem PySem.Spec PyProof.Rows L2
end






end Tr
namespace My
open PySem PySem.Spec PyProof.Rows L2 Tr
variable [Tabl]

open PySem PySem.Spec PyProof.Rows L2 Tr
variable [Tabl]

open PySem PySem.Spec PyProof.Rows L2 Tr
variable [Tabl]

open PySem PySem.Spec PyProof.Rows L2 Tr
variable [Tabl]

open PySem PySem.Spec PyProof.Rows L2 Tr
variable [Tabl]

open PySem PySem.Spec PyProof.Rows L2 Tr

open PySem PySem.Spec PyProof.Rows L2 Tr
section
variable {P : Sl → Prop} {x y : T} {k : Ks} {sl : List Sl}
end


open PySem PySem.Spec PyProof.Rows L2 Tr
section
variable {P : Sl → Prop} {x y : T} {k : Ks} {sl : List Sl} {cN : Str → Addr} {s w s' w' : List Str} {b : Str}
end


open PySem PySem.Spec PyProof.Rows L2 Tr
section
variable {P : Sl → Prop} {x y : T} {k : Ks} {sl : List Sl} {cN : Str → Addr} {s w s' w' : List Str} {b : Str}
end


open PySem PySem.Spec PyProof.Rows L2 Tr SX
section
variable {P : Sl → Prop} {x y : T} {k : Ks} {sl : List Sl} {cN : Str → Addr} {s w s' w' : List Str} {b : Str}
end


open PySem PySem.Spec PyProof.Rows L2 Tr SX
section
variable {P : Sl → Prop} {x y : T} {k : Ks} {sl : List Sl} {cN : Str → Addr} {s w s' w' : List Str} {b : Str}
end



open PySem PySem.Spec PyProof.Rows L2 Tr SX
section
variable {P : Sl → Prop} {x y : T} {k : Ks} {sl : List Sl} {cN : Str → Addr} {s w s' w' : List Str} {b : Str}
end


open PySem PySem.Spec PyProof.Rows L2 Tr SX
section
variable {P : Sl → Prop} {x y : T} {k : Ks} {sl : List Sl} {cN : Str → Addr} {s w s' w' : List Str} {b : Str}
end


open PySem PySem.Spec PyProof.Rows L2 Tr SX
section
variable {P : Sl → Prop} {x y : T} {k : Ks} {sl : List Sl} {cN : Str → Addr} {s w s' w' : List Str} {b : Str}
end


open PySem PySem.Spec PyProof.Rows L2 Tr SX
section
variable {P : Sl → Prop} {x y : T} {k : Ks} {sl : List Sl} {cN : Str → Addr} {s w s' w' : List Str} {b : Str}
end


open PySem PySem.Spec PyProof.Rows L2 Tr SX
section
variable {P : Sl → Prop} {x y : T} {k : Ks} {sl : List Sl} {cN : Str → Addr} {s w s' w' : List Str} {b : Str}
end


open PySem PySem.Spec PyProof.Rows L2 Tr SX
section
variable {P : Sl → Prop} {x y : T} {k : Ks} {sl : List Sl} {cN : Str → Addr} {s w s' w' : List Str} {b : Str}
end


open PySem PySem.Spec PyProof.Rows L2 Tr SX
section
variable {P : Sl → Prop} {x y : T} {k : Ks} {sl : List Sl} {cN : Str → Addr} {s w s' w' : List Str} {b : Str}
end



open PySem PySem.Spec PyProof.Rows L2 Tr
variable [Tabl]
section
variable {P : Sl → Prop} {x y : T} {k : Ks} {sl : List Sl} {cN : Str → Addr}
end


open PySem PySem.Spec PyProof.Rows L2 Tr
variable [Tabl]
section
variable {P : Sl → Prop} {x : T} {cN : Str → Addr}
def fl : T → Bool
  | .ins _ _ _ => false
  | .ty _ => false
  | .fn _ => false
  | .exc _ _ _ _ => false
  | .scr _ => false
  | _ => true
theorem fl_plain (h : fl x = true) : plain x = true := by cases x <;> first | rfl | cases h
def wh (x : T) (lo hi : Int) : Bool := match x with
  | .int i => decide (lo ≤ i) && decide (i ≤ hi)
  | _ => false
theorem B_eq {b c : Bool} (p : P (B b)) (e : b = c) : P (B c) := e ▸ p
theorem within_wh {lo hi : Int} (h0 : -999999999999999999999999999999999999999999999999999999999999 ≤ lo) (h1 : hi ≤ 999999999999999999999999999999999999999999999999999999999999) : isWithin x lo hi = wh x lo hi := by
  cases x <;> try rfl
  case int i =>
    show ((_ && _) && (_ && _)) = (_ && _)
    rw [Bool.eq_iff_iff]
    simp only [Bool.and_eq_true, decide_eq_true_eq]
    omega
theorem r_is_wh {lo hi : Int} (h0 : -999999999999999999999999999999999999999999999999999999999999 ≤ lo) (h1 : hi ≤ 999999999999999999999999999999999999999999999999999999999999) (h : fl x = true) (p : P (B (wh x lo hi))) : w_is_within [.val x, .val (.int lo), .val (.int hi)] P :=
  r_is_within (fl_plain h) (B_eq p (within_wh h0 h1).symm)
theorem r_is_value (h : fl x = true) (p : P (B (wh x (-999999999999) 999999999999))) : w_is_value [.val x] P := by
  refine st_is_value ?_
  (repeat left)
  refine r_is_wh (by decide) (by decide) h ?_
  (repeat left)
  exact p
def valB (x : T) : Bool := match x with
  | .non => true
  | _ => wh x (-999999999999) 999999999999
theorem r_is_value_or_none (h : fl x = true) (p : P (B (valB x))) : w_is_value_or_none [.val x] P := by
  refine st_is_value_or_none ?_
  cases x <;> first | (cases h; done) | skip
  case non => (repeat left); exact p
  all_goals (repeat left)
  all_goals refine r_is_value h ?_
  all_goals (repeat left)
  all_goals exact p
/-! keys -/
def okKey (z : Str) : Bool := (decide (1 ≤ (z.length : Int)) && decide ((z.length : Int) ≤ 8)) && z.cps.toList.all fun c => decide (c ∈ ("abcdefghijklmnopqrstuvwxyz" : Str).cps.toList)
def keyB (x : T) : Bool := match x with
  | .str z => okKey z
  | _ => false
def smallS (x : T) : Prop := ∀ z, x = .str z → z.length ≤ 1000
theorem keyB_no {z : Str} (h : ¬ ((1 : Int) ≤ (z.length : Int) ∧ (z.length : Int) ≤ 8)) : keyB (.str z) = false := by
  show (_ && _) = false
  rw [Bool.and_eq_false_iff]
  left
  rw [Bool.and_eq_false_iff, decide_eq_false_iff_not, decide_eq_false_iff_not]
  omega
theorem keyB_yes {z : Str} (h1 : (1 : Int) ≤ (z.length : Int)) (h2 : (z.length : Int) ≤ 8) : keyB (.str z) = z.cps.toList.all fun c => decide (c ∈ ("abcdefghijklmnopqrstuvwxyz" : Str).cps.toList) := by
  show (_ && _) = _
  rw [decide_eq_true h1, decide_eq_true h2, Bool.true_and, Bool.true_and]
theorem r_is_key (h : fl x = true) (hs : smallS x) (p : P (B (keyB x))) : w_is_key [.val x] P := by
  refine st_is_key ?_
  cases x <;> first | (cases h; done) | skip
  case str z =>
    have hz := hs z rfl
    (repeat left)
    refine x_ifc (fun h1 => ?_) (fun h1 => ?_)
    · (repeat left)
      refine x_ifc (fun h2 => ?_) (fun h2 => ?_)
      · (repeat left)
        refine ⟨by rw [sgn_len]; omega, ?_⟩
        refine collF (fun c => T.str ⟨#[c]⟩) (fun c => T.bl (decide (c ∈ ("abcdefghijklmnopqrstuvwxyz" : Str).cps.toList))) z.cps.toList [] (fun c hc R hR => ?_) ?_
        · exact ⟨fun z => (nomatch z), _, _, _, rfl, rfl, rfl, hR⟩
        · refine ⟨_, _, rfl, bl_map, ?_⟩
          exact B_eq p (keyB_yes h1 h2)
      · (repeat left)
        exact B_eq p (keyB_no fun z => h2 z.2)
    · (repeat left)
      exact B_eq p (keyB_no fun z => h1 z.1)
  all_goals (repeat left)
  all_goals exact p
end


open PySem PySem.Spec PyProof.Rows L2 Tr
variable [Tabl]
section
variable {P : Sl → Prop} {x : T} {cN : Str → Addr}
def fit1 (x : T) : Prop := fl x = true ∧ smallS x
def setB (x : T) : Bool := match x with
  | .tup [a, b] => keyB a && valB b
  | _ => false
def fitS (x : T) : Prop := fl x = true ∧ ∀ ts, x = .tup ts → ts.length ≤ 1000 ∧ ∀ t ∈ ts, fit1 t
theorem r__is_setting (h : fitS x) (p : P (B (setB x))) : w__is_setting [.val x] P := by
  refine st__is_setting ?_
  obtain ⟨hf, hs⟩ := h
  cases x <;> first | (cases hf; done) | skip
  case tup ts =>
    obtain ⟨hl, ht⟩ := hs ts rfl
    match ts, hl, ht, p with
    | [], _, _, p => (repeat left); exact p
    | [a], _, _, p => (repeat left); exact p
    | [a, b], _, ht, p =>
      have ha := ht a (List.mem_cons_self ..)
      have hb := ht b (List.mem_cons_of_mem _ (List.mem_cons_self ..))
      (repeat left)
      refine r_is_key ha.1 ha.2 ?_
      (repeat left)
      refine x_ifb (fun g => ?_) (fun g => ?_)
      · (repeat left)
        refine r_is_value_or_none hb.1 ?_
        (repeat left)
        exact B_eq p (by show (keyB a && valB b) = valB b; rw [g, Bool.true_and])
      · (repeat left)
        exact B_eq p (by show (keyB a && valB b) = false; rw [g, Bool.false_and])
    | a :: b :: c :: r, hl, _, p =>
      (repeat left)
      exact p
  all_goals (repeat left)
  all_goals exact p
/-! deeds -/
abbrev stg (p : Str × T) : T := .tup [.str p.1, p.2]
def asc (ks : List Str) : Bool := (List.zipWith (fun x y => decide (x.cps.toList < y.cps.toList)) ks ks.tail).all id
def keyOf (t : T) : Str := match t with
  | .tup (.str k :: _) => k
  | _ => ""
def deedB (x : T) : Bool := match x with
  | .tup ts => (decide (1 ≤ ts.length) && decide (ts.length ≤ 6)) && (ts.all setB && asc (ts.map keyOf))
  | _ => false
def fitD (x : T) : Prop := fl x = true ∧ ∀ ts, x = .tup ts → ts.length ≤ 1000 ∧ ∀ t ∈ ts, fitS t
theorem set_form {t : T} (h : setB t = true) : ∃ p : Str × T, t = stg p ∧ okKey p.1 = true ∧ valB p.2 = true := by
  unfold setB at h
  split at h
  · rename_i a b
    rw [Bool.and_eq_true] at h
    cases a <;> first | (cases h.1; done) | skip
    case str k => exact ⟨(k, b), rfl, h.1, h.2⟩
  · cases h
theorem sets_form : ∀ {ts : List T}, ts.all setB = true → ∃ ss : List (Str × T), ts = ss.map stg ∧ ts.map keyOf = ss.map (·.1) ∧ ∀ p ∈ ss, okKey p.1 = true ∧ valB p.2 = true
  | [], _ => ⟨[], rfl, rfl, fun _ h => nomatch h⟩
  | t :: r, h => by
    rw [List.all_cons, Bool.and_eq_true] at h
    obtain ⟨p, rfl, e1, e2⟩ := set_form h.1
    obtain ⟨ss, rfl, e3, e4⟩ := sets_form h.2
    exact ⟨p :: ss, rfl, by rw [List.map_cons, List.map_cons, e3]; rfl, fun q hq => by
      cases hq with
      | head => exact ⟨e1, e2⟩
      | tail _ hq => exact e4 q hq⟩
/-- a comprehension over pairs -/
theorem collF2 {sl : List Sl} {α : Type} (g1 g2 f : α → T) {we : WE} {Q : List T → Prop} {i j : Nat} : ∀ (as : List α) (acc : List T), (∀ a ∈ as, ∀ R : Sl → Prop, R (.val (f a)) → we ((sl.set i (.val (g1 a))).set j (.val (g2 a))) R) → Q (acc ++ as.map f) → wColl (.names [i, j]) wYes we sl Q (as.map fun a => .tup [g1 a, g2 a]) acc
  | [], acc, _, q => by
    rw [List.map_nil, List.append_nil] at q
    exact q
  | n :: r, acc, h, q => by
    refine ⟨_, rfl, ?_⟩
    show we ((sl.set i (.val (g1 n))).set j (.val (g2 n))) fun y => ∃ u, y = .val u ∧ wColl (.names [i, j]) wYes we sl Q (r.map fun a => .tup [g1 a, g2 a]) (acc ++ [u])
    refine h n List.mem_cons_self _ ⟨f n, rfl, collF2 g1 g2 f r _ (fun m hm => h m (List.mem_cons_of_mem _ hm)) ?_⟩
    rw [List.append_assoc]
    exact q
theorem zip_pairs : ∀ (xs ys : List Str), List.zipWith (fun x y => T.tup [x, y]) (xs.map T.str) (ys.map T.str) = (xs.zip ys).map fun p => .tup [.str p.1, .str p.2]
  | [], _ => by simp
  | _ :: _, [] => by simp
  | x :: xs, y :: ys => by
    rw [List.map_cons, List.map_cons, List.zipWith_cons_cons, zip_pairs xs ys, List.zip_cons_cons, List.map_cons]
theorem zip_asc : ∀ (xs ys : List Str), (xs.zip ys).all (fun p => decide (p.1.cps.toList < p.2.cps.toList)) = (List.zipWith (fun x y => decide (x.cps.toList < y.cps.toList)) xs ys).all id
  | [], _ => by simp
  | _ :: _, [] => by simp
  | x :: xs, y :: ys => by
    rw [List.zip_cons_cons, List.all_cons, zip_asc xs ys, List.zipWith_cons_cons, List.all_cons]
    rfl
theorem cut_from {α : Type} (xs : List α) {n : Nat} (h : n ≤ xs.length) : cutT xs (some (n : Int)) none = xs.drop n := by
  unfold cutT
  have e : HT.sIx xs.length 0 (some (n : Int)) = n := by
    show (if (n : Int) < 0 then ((n : Int) + (xs.length : Int)).toNat else min (n : Int).toNat xs.length) = n
    rw [if_neg (by omega)]
    omega
  rw [e, HT.sIx_none]
  exact List.take_of_length_le (by rw [List.length_drop]; omega)
theorem collI (f : T → T) {we : WE} {sl : List Sl} {Q : List T → Prop} {i : Nat} (ts : List T) (h : ∀ a ∈ ts, ∀ R : Sl → Prop, R (.val (f a)) → we (sl.set i (.val a)) R) (q : Q (ts.map f)) : wColl (.name i) wYes we sl Q ts [] := by
  have := collF (we := we) (sl := sl) (Q := Q) (i := i) id f ts [] h q
  rwa [List.map_id] at this
theorem r_are_ascending {ks : List Str} (hl : 1 ≤ ks.length) (hm : ks.length ≤ 100) (p : P (B (asc ks))) : w_are_ascending [.val (.lst (ks.map T.str))] P := by
  refine st_are_ascending ?_
  have e1 : slT (.lst (ks.map T.str)) (some 1) none = some (.lst (ks.tail.map T.str)) := by
    show some (T.lst (cutT (ks.map T.str) (some ((1 : Nat) : Int)) none)) = _
    rw [cut_from _ (by rw [List.length_map]; exact hl), List.drop_one, List.map_tail]
  (repeat left)
  refine ⟨fun z => (nomatch z), fun z => (nomatch z), _, rfl, _, _, rfl, e1, _, _, .inl rfl, by rw [List.length_zipWith, List.length_map]; omega, ?_⟩
  rw [zip_pairs]
  refine collF2 (fun p : Str × Str => T.str p.1) (fun p => T.str p.2) (fun p => T.bl (decide (p.1.cps.toList < p.2.cps.toList))) _ [] (fun a ha R hR => ?_) ?_
  · exact ⟨fun z => (nomatch z), fun z => (nomatch z), _, _, _, rfl, rfl, rfl, hR⟩
  · refine ⟨_, _, rfl, bl_map, ?_⟩
    rw [zip_asc]
    exact p
theorem deedB_no {ts : List T} (h : ¬ (1 ≤ (ts.length : Int) ∧ (ts.length : Int) ≤ 6)) : deedB (.tup ts) = false := by
  show ((decide (1 ≤ ts.length) && decide (ts.length ≤ 6)) && _) = false
  rw [show (decide (1 ≤ ts.length) && decide (ts.length ≤ 6)) = false by
    rw [Bool.and_eq_false_iff, decide_eq_false_iff_not, decide_eq_false_iff_not]; omega, Bool.false_and]
theorem deedB_yes {ts : List T} (h1 : 1 ≤ (ts.length : Int)) (h2 : (ts.length : Int) ≤ 6) : deedB (.tup ts) = (ts.all setB && asc (ts.map keyOf)) := by
  show ((decide (1 ≤ ts.length) && decide (ts.length ≤ 6)) && _) = _
  rw [decide_eq_true (show 1 ≤ ts.length by omega), decide_eq_true (show ts.length ≤ 6 by omega), Bool.true_and, Bool.true_and]
theorem r_is_deed (h : fitD x) (p : P (B (deedB x))) : w_is_deed [.val x] P := by
  refine st_is_deed ?_
  obtain ⟨hf, hs⟩ := h
  cases x <;> first | (cases hf; done) | skip
  case tup ts =>
    obtain ⟨hl, ht⟩ := hs ts rfl
    (repeat left)
    refine x_ifc (fun h1 => ?_) (fun h1 => ?_)
    · (repeat left)
      refine x_ifc (fun h2 => ?_) (fun h2 => ?_)
      · rw [deedB_yes h1 h2] at p
        (repeat left)
        refine ⟨by omega, ?_⟩
        refine collI (fun t => .bl (setB t)) ts (fun a ha R hR => ?_) ?_
        · (repeat left)
          refine r__is_setting (ht a ha) ?_
          (repeat left)
          exact hR
        · (repeat left)
          refine ⟨_, _, rfl, bl_map, ?_⟩
          (repeat left)
          refine x_ifb (fun g => ?_) (fun g => ?_)
          · rw [g, Bool.true_and] at p
            obtain ⟨ss, rfl, e2, _⟩ := sets_form g
            rw [e2] at p
            (repeat left)
            refine ⟨by omega, ?_⟩
            refine collF2 (fun p : Str × T => T.str p.1) (fun p => p.2) (fun p => T.str p.1) ss [] (fun a ha R hR => ?_) ?_
            · (repeat left)
              exact hR
            · (repeat left)
              have e : ss.map (fun p => T.str p.1) = (ss.map (·.1)).map T.str := by rw [List.map_map]; rfl
              rw [List.nil_append, e]
              rw [List.length_map] at h1 h2
              refine r_are_ascending (by rw [List.length_map]; omega) (by rw [List.length_map]; omega) ?_
              (repeat left)
              exact p
          · rw [g, Bool.false_and] at p
            (repeat left)
            exact p
      · (repeat left)
        exact B_eq p (deedB_no fun z => h2 z.2)
    · (repeat left)
      exact B_eq p (deedB_no fun z => h1 z.1)
  all_goals (repeat left)
  all_goals exact p
end





open PySem PySem.Spec PyProof.Rows L2 Tr
variable [Tabl]

open PySem PySem.Spec PyProof.Rows L2 Tr
variable [Tabl]

open PySem PySem.Spec PyProof.Rows L2 Tr
variable [Tabl]

open PySem PySem.Spec PyProof.Rows L2 Tr
section
variable {P : Sl → Prop} {x y : T} {lo hi s m u : Int}
theorem within_int (h1 : lo ≤ u) (h2 : u ≤ hi) (h3 : -999999999999999999999999999999999999999999999999999999999999 ≤ lo := by decide) (h4 : hi ≤ 999999999999999999999999999999999999999999999999999999999999 := by decide) : isWithin (.int u) lo hi = true := by
  unfold isWithin isWhole
  simp
  omega
end
section
variable {P : Sl → Prop} {x y : T} {lo hi s u : Int} {m : Nat}
end




end My
namespace Tr
open PySem PySem.Spec PyProof.Rows L2 Tr
variable [Tabl]

open PySem PySem.Spec PyProof.Rows L2 Tr
variable [Tabl]

open PySem PySem.Spec PyProof.Rows L2 Tr
variable [Tabl]

open PySem PySem.Spec PyProof.Rows L2 Tr
variable [Tabl]

section
variable {sl : List Sl} {P : Sl → Prop}
open PySem PySem.Spec PyProof.Rows L2
end




end Tr
namespace My
open PySem PySem.Spec PyProof.Rows L2 Tr
variable [Tabl]

open PySem PySem.Spec PyProof.Rows L2 Tr
variable [Tabl]

open PySem PySem.Spec PyProof.Rows L2 Tr
variable [Tabl]

open PySem PySem.Spec PyProof.Rows L2 Tr
variable [Tabl]

open PySem PySem.Spec PyProof.Rows L2 Tr
section
variable {P : Sl → Prop} {x y : T} {k : Ks} {sl : List Sl}
end


open PySem PySem.Spec PyProof.Rows L2 Tr
section
variable {P : Sl → Prop} {x y : T} {k : Ks} {sl : List Sl} {cN : Str → Addr} {s w s' w' : List Str} {b : Str}
end


open PySem PySem.Spec PyProof.Rows L2 Tr
section
variable {P : Sl → Prop} {x y : T} {k : Ks} {sl : List Sl} {cN : Str → Addr} {s w s' w' : List Str} {b : Str}
end


open PySem PySem.Spec PyProof.Rows L2 Tr SX
section
variable {P : Sl → Prop} {x y : T} {k : Ks} {sl : List Sl} {cN : Str → Addr} {s w s' w' : List Str} {b : Str}
end


open PySem PySem.Spec PyProof.Rows L2 Tr SX
section
variable {P : Sl → Prop} {x y : T} {k : Ks} {sl : List Sl} {cN : Str → Addr} {s w s' w' : List Str} {b : Str}
end


open PySem PySem.Spec PyProof.Rows L2 Tr SX
section
variable {P : Sl → Prop} {x y : T} {k : Ks} {sl : List Sl} {cN : Str → Addr} {s w s' w' : List Str} {b : Str}
end


open PySem PySem.Spec PyProof.Rows L2 Tr SX
section
variable {P : Sl → Prop} {x y : T} {k : Ks} {sl : List Sl} {cN : Str → Addr} {s w s' w' e : List Str} {b : Str}
end


open PySem PySem.Spec PyProof.Rows L2 Tr

open PySem PySem.Spec PyProof.Rows L2 Tr
section
variable {P : Sl → Prop} {x y : T} {lo hi s m u : Int}
end
section
variable {P : Sl → Prop} {x y : T} {lo hi s u : Int} {m : Nat}
end





end My
namespace Tr
open PySem PySem.Spec PyProof.Rows L2 Tr
variable [Tabl]

open PySem PySem.Spec PyProof.Rows L2 Tr
variable [Tabl]

open PySem PySem.Spec PyProof.Rows L2 Tr
variable [Tabl]

open PySem PySem.Spec PyProof.Rows L2 Tr
variable [Tabl]

open PySem PySem.Spec PyProof.Rows L2 Tr

section
variable {sl : List Sl} {P : Sl → Prop}
open PySem PySem.Spec PyProof.Rows L2
end





end Tr
namespace My
open PySem PySem.Spec PyProof.Rows L2 Tr
variable [Tabl]

open PySem PySem.Spec PyProof.Rows L2 Tr
variable [Tabl]

open PySem PySem.Spec PyProof.Rows L2 Tr
variable [Tabl]

open PySem PySem.Spec PyProof.Rows L2 Tr
variable [Tabl]

open PySem PySem.Spec PyProof.Rows L2 Tr

open PySem PySem.Spec PyProof.Rows L2 Tr
section
variable {P : Sl → Prop} {x y : T} {k : Ks} {sl : List Sl}
end


open PySem PySem.Spec PyProof.Rows L2 Tr
section
variable {P : Sl → Prop} {x y : T} {k : Ks} {sl : List Sl} {cN : Str → Addr} {s w s' w' : List Str} {b : Str}
end


open PySem PySem.Spec PyProof.Rows L2 Tr
section
variable {P : Sl → Prop} {x y : T} {k : Ks} {sl : List Sl} {cN : Str → Addr} {s w s' w' : List Str} {b : Str}
end


open PySem PySem.Spec PyProof.Rows L2 Tr SX
section
variable {P : Sl → Prop} {x y : T} {k : Ks} {sl : List Sl} {cN : Str → Addr} {s w s' w' : List Str} {b : Str}
end


open PySem PySem.Spec PyProof.Rows L2 Tr SX
section
variable {P : Sl → Prop} {x y : T} {k : Ks} {sl : List Sl} {cN : Str → Addr} {s w s' w' : List Str} {b : Str}
end


open PySem PySem.Spec PyProof.Rows L2 Tr SX
section
variable {P : Sl → Prop} {x y : T} {k : Ks} {sl : List Sl} {cN : Str → Addr} {s w s' w' : List Str} {b : Str}
end


open PySem PySem.Spec PyProof.Rows L2 Tr SX
section
variable {P : Sl → Prop} {x y : T} {k : Ks} {sl : List Sl} {cN : Str → Addr} {s w s' w' : List Str} {b : Str}
end


open PySem PySem.Spec PyProof.Rows L2 Tr SX
section
variable {P : Sl → Prop} {x y : T} {k : Ks} {sl : List Sl} {cN : Str → Addr} {s w s' w' : List Str} {b : Str}
end


open PySem PySem.Spec PyProof.Rows L2 Tr SX
section
variable {P : Sl → Prop} {x y : T} {k : Ks} {sl : List Sl} {cN : Str → Addr} {s w s' w' : List Str} {b : Str}
/-! lists of whole numbers, lists of texts, compared -/
end


open PySem PySem.Spec PyProof.Rows L2 Tr SX
section
variable {P : Sl → Prop} {x y : T} {k : Ks} {sl : List Sl} {cN : Str → Addr} {s w s' w' : List Str} {b : Str}
end


open PySem PySem.Spec PyProof.Rows L2 Tr SX
section
variable {P : Sl → Prop} {x y : T} {k : Ks} {sl : List Sl} {cN : Str → Addr} {s w s' w' : List Str} {b : Str}
/-! what is told of the moments, by the law -/
end


open PySem PySem.Spec PyProof.Rows L2 Tr SX
section
variable {P : Sl → Prop} {x y : T} {k : Ks} {sl : List Sl} {cN : Str → Addr} {s w s' w' : List Str} {b : Str}
end


open PySem PySem.Spec PyProof.Rows L2 Tr SX
section
variable {P : Sl → Prop} {x y : T} {k : Ks} {sl : List Sl} {cN : Str → Addr} {s w s' w' : List Str} {b : Str}
end



open PySem PySem.Spec PyProof.Rows L2 Tr SX
section
variable {P : Sl → Prop} {x y : T} {k : Ks} {sl : List Sl} {cN : Str → Addr} {s w s' w' : List Str} {b : Str}
/-! what a fall leaves can be told -/
end


open PySem PySem.Spec PyProof.Rows L2 Tr SX
section
variable {P : Sl → Prop} {x y : T} {k : Ks} {sl : List Sl} {cN : Str → Addr} {s w s' w' : List Str} {b : Str}
end


open PySem PySem.Spec PyProof.Rows L2 Tr

open PySem PySem.Spec PyProof.Rows L2 Tr
section
variable {P : Sl → Prop} {x y : T} {lo hi s m u : Int}
end
section
variable {P : Sl → Prop} {x y : T} {lo hi s u : Int} {m : Nat}
end





end My
namespace Tr
open PySem PySem.Spec PyProof.Rows L2 Tr
variable [Tabl]

open PySem PySem.Spec PyProof.Rows L2 Tr
variable [Tabl]

open PySem PySem.Spec PyProof.Rows L2 Tr
variable [Tabl]

open PySem PySem.Spec PyProof.Rows L2 Tr
variable [Tabl]

open PySem PySem.Spec PyProof.Rows L2 Tr

section
variable {sl : List Sl} {P : Sl → Prop}
open PySem PySem.Spec PyProof.Rows L2
end





end Tr
namespace My
open PySem PySem.Spec PyProof.Rows L2 Tr
variable [Tabl]

open PySem PySem.Spec PyProof.Rows L2 Tr
variable [Tabl]

open PySem PySem.Spec PyProof.Rows L2 Tr
variable [Tabl]

open PySem PySem.Spec PyProof.Rows L2 Tr
variable [Tabl]

open PySem PySem.Spec PyProof.Rows L2 Tr

open PySem PySem.Spec PyProof.Rows L2 Tr
section
variable {P : Sl → Prop} {x y : T} {k : Ks} {sl : List Sl}
end


open PySem PySem.Spec PyProof.Rows L2 Tr
section
variable {P : Sl → Prop} {x y : T} {k : Ks} {sl : List Sl} {cN : Str → Addr} {s w s' w' : List Str} {b : Str}
end


open PySem PySem.Spec PyProof.Rows L2 Tr
section
variable {P : Sl → Prop} {x y : T} {k : Ks} {sl : List Sl} {cN : Str → Addr} {s w s' w' : List Str} {b : Str}
end


open PySem PySem.Spec PyProof.Rows L2 Tr SX
section
variable {P : Sl → Prop} {x y : T} {k : Ks} {sl : List Sl} {cN : Str → Addr} {s w s' w' : List Str} {b : Str}
end


open PySem PySem.Spec PyProof.Rows L2 Tr SX
section
variable {P : Sl → Prop} {x y : T} {k : Ks} {sl : List Sl} {cN : Str → Addr} {s w s' w' : List Str} {b : Str}
end



open PySem PySem.Spec PyProof.Rows L2 Tr SX
section
variable {P : Sl → Prop} {x y : T} {k : Ks} {sl : List Sl} {cN : Str → Addr} {s w s' w' : List Str} {b : Str}
end


open PySem PySem.Spec PyProof.Rows L2 Tr SX
section
variable {P : Sl → Prop} {x y : T} {k : Ks} {sl : List Sl} {cN : Str → Addr} {s w s' w' : List Str} {b : Str}
end


open PySem PySem.Spec PyProof.Rows L2 Tr SX
section
variable {P : Sl → Prop} {x y : T} {k : Ks} {sl : List Sl} {cN : Str → Addr} {s w s' w' : List Str} {b : Str}
end


open PySem PySem.Spec PyProof.Rows L2 Tr SX
section
variable {P : Sl → Prop} {x y : T} {k : Ks} {sl : List Sl} {cN : Str → Addr} {s w s' w' : List Str} {b : Str}
end


open PySem PySem.Spec PyProof.Rows L2 Tr SX
section
variable {P : Sl → Prop} {x y : T} {k : Ks} {sl : List Sl} {cN : Str → Addr} {s w s' w' : List Str} {b : Str}
end


open PySem PySem.Spec PyProof.Rows L2 Tr SX
section
variable {P : Sl → Prop} {x y : T} {k : Ks} {sl : List Sl} {cN : Str → Addr} {s w s' w' : List Str} {b : Str}
end


open PySem PySem.Spec PyProof.Rows L2 Tr SX
section
variable {P : Sl → Prop} {x y : T} {k : Ks} {sl : List Sl} {cN : Str → Addr} {s w s' w' : List Str} {b : Str}
end



open PySem PySem.Spec PyProof.Rows L2 Tr
variable [Tabl]
section
variable {P : Sl → Prop} {x : T} {cN : Str → Addr}
end


open PySem PySem.Spec PyProof.Rows L2 Tr
variable [Tabl]
section
variable {P : Sl → Prop} {x : T} {cN : Str → Addr}
end


open PySem PySem.Spec PyProof.Rows L2 Tr
variable [Tabl]
section
variable {P : Sl → Prop} {x : T} {cN : Str → Addr}
end



open PySem PySem.Spec PyProof.Rows L2 Tr
variable [Tabl]
section
variable {P : Sl → Prop} {x t : T} {z : Str} {cN : Str → Addr} {em : Value → Value → Option Bool} {r : RX} {q : List Str → List T → Prop}
/-! instants -/
abbrev nn (a : Int) : Prop := 0 ≤ a ∧ a ≤ 999999999999999999999999999999999999999999999999999999999999
theorem in_nn {a : Int} (h : nn a) : isWithin (.int a) 0 999999999999999999999999999999999999999999999999999999999999 = true := within_int h.1 h.2
theorem n_is_instant {a b : Int} (ha : nn a) (hb : nn b) (p : P (B true)) : w_is_instant [.val (.tup [.int a, .int b])] P := by
  refine st_is_instant ?_
  (repeat left)
  refine r_is_within rfl ?_
  rw [in_nn ha]
  (repeat left)
  refine r_is_within rfl ?_
  rw [in_nn hb]
  (repeat left)
  exact p
/-! copies -/
abbrev names5 : List Str := ["key", "value", "begin", "last", "gone"]
abbrev cpF (z : Str) (v : T) (a b l : Int) (g : T) : List T := [.str z, v, .tup [.int a, .int b], .int l, g]
abbrev cpT (cN : Str → Addr) (z : Str) (v : T) (a b l : Int) (g : T) : T := .ins (cN "Copy") names5 (cpF z v a b l g)
structure Good (z : Str) (v : T) (a b l : Int) : Prop where
  k : okKey z = true
  kl : z.length ≤ 1000
  f : fl v = true
  v : valB v = true
  na : nn a
  nb : nn b
  l : isWithin (.int l) a 999999999999999999999999999999999999999999999999999999999999 = true
def gd (z : Str) (v : T) (a b l : Int) : Bool := okKey z && (decide (z.length ≤ 1000) && (fl v && (valB v && (decide (0 ≤ a) && (decide (a ≤ 999999999999999999999999999999999999999999999999999999999999) && (decide (0 ≤ b) && (decide (b ≤ 999999999999999999999999999999999999999999999999999999999999) && isWithin (.int l) a 999999999999999999999999999999999999999999999999999999999999)))))))
theorem r_need_number {lo hi : Int} (h : plain x = true) (e : isWithin x lo hi = true) (p : P (.val .non)) : w_need_number [.val x, .val (.int lo), .val (.int hi)] P := by
  refine st_need_number ?_
  (repeat left)
  refine r_is_within h ?_
  rw [e]
  (repeat left)
  exact p
end


open PySem PySem.Spec PyProof.Rows L2 Tr
variable [Tabl]
section
variable {P : Sl → Prop} {sl : List Sl} {x t : T} {z : Str} {cN : Str → Addr} {em : Value → Value → Option Bool} {r : RX} {q : List Str → List T → Prop} {ks : List Key} {ts : List T}
local macro_rules | `(tactic| left) => `(tactic| first
  | with_reducible refine My.x_dgetc My.gk ?_
  | with_reducible refine My.x_dgetc My.gv ?_
  | with_reducible refine My.x_dgetc My.gi ?_
  | with_reducible refine My.x_dgetc My.gn ?_)
local macro_rules | `(tactic| left) => `(tactic| with_reducible refine My.pickI (by assumption) ?_)
end


open PySem PySem.Spec PyProof.Rows L2 Tr
variable [Tabl]
section
variable {P : Sl → Prop} {sl : List Sl} {x t : T} {z : Str} {cN : Str → Addr} {em : Value → Value → Option Bool} {r : RX} {q : List Str → List T → Prop} {ks : List Key} {ts : List T}
local macro_rules | `(tactic| left) => `(tactic| first
  | with_reducible refine My.x_dgetc My.gk ?_
  | with_reducible refine My.x_dgetc My.gv ?_
  | with_reducible refine My.x_dgetc My.gi ?_
  | with_reducible refine My.x_dgetc My.gn ?_)
end


open PySem PySem.Spec PyProof.Rows L2 Tr
variable [Tabl]
section
variable {P : Sl → Prop} {sl : List Sl} {x t : T} {z : Str} {cN : Str → Addr} {em : Value → Value → Option Bool} {r : RX} {q : List Str → List T → Prop} {ks : List Key} {ts : List T}
abbrev cT (cN : Str → Addr) (c : Str × List T) : T := .ins (cN "Copy") names5 (.str c.1 :: c.2)
/-! kept -/
/-! grants -/
end



open PySem PySem.Spec PyProof.Rows L2 Tr
variable [Tabl]
section
variable {P : Sl → Prop} {x t : T} {z : Str} {cN : Str → Addr} {em : Value → Value → Option Bool} {r : RX} {q : List Str → List T → Prop}
abbrev NE : List Str := ["InvalidKey", "InvalidValue", "InvalidInstant", "InvalidNumber", "InvalidCopy", "InvalidOperation"]
abbrev refT (z : Str) : T := .tup [.str "refused", .str z]
theorem m_need_number {lo hi : Int} (h : plain x = true) (e : isWithin x lo hi = false) (p : r (.ref (cN "InvalidNumber")) (some ("given", x))) : wx_need_number cN r [.val x, .val (.int lo), .val (.int hi)] P := by
  refine stx_need_number ?_
  (repeat left)
  refine r_is_within h ?_
  rw [e]
  (repeat left)
  exact p
theorem n_need_number {lo hi : Int} (h : plain x = true) (e : isWithin x lo hi = true) (p : P (.val .non)) : wx_need_number cN r [.val x, .val (.int lo), .val (.int hi)] P := by
  refine stx_need_number ?_
  (repeat left)
  refine r_is_within h ?_
  rw [e]
  (repeat left)
  exact p
/-! instants -/
def badI : List T := [.non, .tup [.int 0], .tup [.int 0, .int (-1)], .tup [.int (-1), .int 0], .lst [.int 0, .int 0], .tup [.bl true, .int 0], .tup [.int 0, .int 0, .int 0], .str "at", .tup [.int 0, .int 1000000000000000000000000000000000000000000000000000000000000], .int 3, .int 0]
theorem n_need_instant {a b : Int} (ha : nn a) (hb : nn b) (p : P (.val .non)) : wx_need_instant cN r [.val (.tup [.int a, .int b])] P := by
  refine stx_need_instant ?_
  (repeat left)
  refine n_is_instant ha hb ?_
  (repeat left)
  exact p
/-! the ends of copies -/
end

end My


set_option Elab.async false
set_option linter.all false
set_option maxRecDepth 100000
set_option maxHeartbeats 0

local macro_rules | `(tactic| left) => `(tactic| first
  | with_reducible refine Tr.x_tw ?_
  | ((with_reducible apply Tr.x_twv); (decide +kernel))
  | with_reducible refine Tr.x_mkF ?_
  | with_reducible refine Tr.x_nput ?_
  | ((with_reducible apply Tr.x_nputv); (exact Nat.le_of_ble_eq_true rfl))
  | with_reducible refine Tr.x_nputS ?_
  | ((with_reducible apply Tr.x_naug); (exact rfl))
  | ((with_reducible apply Tr.x_naugv); (exact Nat.le_of_ble_eq_true rfl))
  | with_reducible refine Tr.x_xifE ?_)
namespace My
open PySem PySem.Spec PyProof.Rows L2 Tr
variable [Tabl]
section
variable {P : Sl → Prop} {x t : T} {z : Str} {cN : Str → Addr} {em : Value → Value → Option Bool} {r : RX} {q : List Str → List T → Prop}
abbrev NE5 : List Str := ["InvalidDeed", "InvalidInstant", "InvalidOperation", "InvalidQuestion", "InvalidNumber", "Refused"]
abbrev refU (z : Str) : T := .tup [.str "refused", .str z]
theorem met_deed (hem : EmOk cN em NE5) (p : P (.val (refU "deed"))) : hdA em 2 P (hd__law_met cN) (.ref (cN "InvalidDeed")) none := by
  unfold hd__law_met
  (repeat left)
  exact p
theorem met_instant (hem : EmOk cN em NE5) (p : P (.val (refU "instant"))) : hdA em 2 P (hd__law_met cN) (.ref (cN "InvalidInstant")) none := by
  unfold hd__law_met
  (repeat left)
  exact p
theorem met_op (hem : EmOk cN em NE5) (p : P (.val (refU "operation"))) : hdA em 2 P (hd__law_met cN) (.ref (cN "InvalidOperation")) none := by
  unfold hd__law_met
  (repeat left)
  exact p
theorem met_question (hem : EmOk cN em NE5) (p : P (.val (refU "question"))) : hdA em 2 P (hd__law_met cN) (.ref (cN "InvalidQuestion")) none := by
  unfold hd__law_met
  (repeat left)
  exact p
theorem x_repr {g : T} (e : reprZ [t] = some g) (p : P (.val g)) : cbG reprZ P [.val t] := ⟨[t], g, rfl, e, p⟩
theorem met_number (hem : EmOk cN em NE5) (h : reprZ [t] = some (.str z)) (p : P (.val (.tup [.str "refused", .str "number", .str z]))) : hdA em 2 P (hd__law_met cN) (.ref (cN "InvalidNumber")) (some ("given", t)) := by
  unfold hd__law_met
  (repeat left)
  refine x_repr h ?_
  (repeat left)
  exact p
theorem met_reason (hem : EmOk cN em NE5) (p : P (.val (.tup [.str "refused", .str "reason", t]))) : hdA em 2 P (hd__law_met cN) (.ref (cN "Refused")) (some ("reason", t)) := by
  unfold hd__law_met
  (repeat left)
  exact p
theorem m_need_deed (h : fitD x) (e : deedB x = false) (p : r (.ref (cN "InvalidDeed")) none) : wx_need_deed cN r [.val x] P := by
  refine stx_need_deed ?_
  (repeat left)
  refine r_is_deed h ?_
  rw [e]
  (repeat left)
  exact p
theorem n_need_deed (h : fitD x) (e : deedB x = true) (p : P (.val .non)) : wx_need_deed cN r [.val x] P := by
  refine stx_need_deed ?_
  (repeat left)
  refine r_is_deed h ?_
  rw [e]
  (repeat left)
  exact p
/-- the law's two readers -/
abbrev namesR : List Str := ["number", "place", "read_number", "write_number", "open_read", "open_write", "floor"]
abbrev rdT (cN : Str → Addr) (n p rn wn : Int) (oq ow : T) (f : Int × Int) : T := .ins (cN "Reader") namesR [.int n, .int p, .int rn, .int wn, oq, ow, .tup [.int f.1, .int f.2]]
theorem r_init {n p : Int} (n0 : 0 ≤ n) (n1 : n ≤ 5) (p0 : 1 ≤ p) (p1 : p ≤ 6) (h : q namesR [.int n, .int p, .int 0, .int 0, .non, .non, .tup [.int 0, .int 0]]) : w_Reader___init__ [.val (.int n), .val (.int p)] q := by
  refine st_Reader___init__ ?_
  (repeat left)
  refine r_need_number rfl (within_int n0 n1) ?_
  (repeat left)
  refine r_need_number rfl (within_int p0 p1) ?_
  (repeat left)
  exact h
theorem m_init1 {v : T} (h : plain x = true) (e : isWithin x 0 5 = false) (p : r (.ref (cN "InvalidNumber")) (some ("given", x))) : wx_Reader___init__ cN r [.val x, .val v] q := by
  refine stx_Reader___init__ ?_
  (repeat left)
  refine m_need_number h e ?_
  (repeat left)
  exact p
theorem m_init2 {n : Int} (n0 : 0 ≤ n) (n1 : n ≤ 5) (h : plain x = true) (e : isWithin x 1 6 = false) (p : r (.ref (cN "InvalidNumber")) (some ("given", x))) : wx_Reader___init__ cN r [.val (.int n), .val x] q := by
  refine stx_Reader___init__ ?_
  (repeat left)
  refine n_need_number rfl (within_int n0 n1) ?_
  (repeat left)
  refine m_need_number h e ?_
  (repeat left)
  exact p
/-- the questions of the law -/
def badQ : List T := [.non, .str "a", .tup [.str "key", .str "A"], .tup [.str "keys", .str "a"], .lst [.str "key", .str "a"], .tup [], .dct [] [], .int 3, .tup [.str "plus", .tup [.str "key", .str "a"]]]
abbrev keyA : T := .tup [.str "key", .str "a"]
theorem in_w {a b c : Str} {v : Bool} (h : decide (a ∈ ([b, c] : List Str)) = v) : isIn false (.str a) (.tup [.str b, .str c]) = some (.bl v) := by
  rw [in_seq (l := [b, c]) rfl, h]
  rfl
theorem r_is_q1 (p : P (B true)) : w_is_question [.val keyA] P := by
  refine st_is_question ?_
  (repeat left)
  refine st_size_within (n := 39) ?_
  (repeat left)
  refine x_kin0 (b := false) (by decide +kernel) ?_
  (repeat left)
  refine st__size_of_leaf ?_
  (repeat left)
  refine x_op2 (in_w (v := true) (by decide +kernel)) ?_
  (repeat left)
  refine r_is_key rfl (fun y e => by cases e; decide +kernel) ?_
  rw [show keyB (.str "a") = true by decide +kernel]
  (repeat left)
  exact p
theorem r_is_qb (hx : x ∈ badQ) (p : P (B false)) : w_is_question [.val x] P := by
  refine st_is_question ?_
  (repeat left)
  refine st_size_within (n := 39) ?_
  unfold badQ at hx
  simp only [List.mem_cons, List.not_mem_nil, or_false] at hx
  rcases hx with rfl | rfl | rfl | rfl | rfl | rfl | rfl | rfl | rfl
  · (repeat left)
    exact p
  · (repeat left)
    exact p
  · (repeat left)
    refine x_kin0 (b := false) (by decide +kernel) ?_
    (repeat left)
    refine st__size_of_leaf ?_
    (repeat left)
    refine x_op2 (in_w (v := true) (by decide +kernel)) ?_
    (repeat left)
    refine r_is_key rfl (fun y e => by cases e; decide +kernel) ?_
    rw [show keyB (.str "A") = false by decide +kernel]
    (repeat left)
    exact p
  · (repeat left)
    refine x_kin0 (b := false) (by decide +kernel) ?_
    (repeat left)
    refine st__size_of_leaf ?_
    (repeat left)
    refine x_op2 (in_w (v := false) (by decide +kernel)) ?_
    (repeat left)
    refine x_op2 (in_w (v := false) (by decide +kernel)) ?_
    (repeat left)
    exact p
  · (repeat left)
    exact p
  · (repeat left)
    exact p
  · (repeat left)
    exact p
  · (repeat left)
    exact p
  · (repeat left)
    refine x_kin0 (b := true) (by decide +kernel) ?_
    (repeat left)
    refine st__size_of_sides (n := 38) ?_
    (repeat left)
    exact p
theorem m_need_question (hx : x ∈ badQ) (p : r (.ref (cN "InvalidQuestion")) none) : wx_need_question cN r [.val x] P := by
  refine stx_need_question ?_
  (repeat left)
  refine r_is_qb hx ?_
  (repeat left)
  exact p
theorem n_need_question (p : P (.val .non)) : wx_need_question cN r [.val keyA] P := by
  refine stx_need_question ?_
  (repeat left)
  refine r_is_q1 ?_
  (repeat left)
  exact p
end
end My


set_option Elab.async false
set_option linter.all false
set_option maxRecDepth 100000
set_option maxHeartbeats 0

local macro_rules | `(tactic| left) => `(tactic| first
  | with_reducible refine Tr.x_tw ?_
  | ((with_reducible apply Tr.x_twv); (decide +kernel))
  | with_reducible refine Tr.x_mkF ?_
  | with_reducible refine Tr.x_nput ?_
  | ((with_reducible apply Tr.x_nputv); (exact Nat.le_of_ble_eq_true rfl))
  | with_reducible refine Tr.x_nputS ?_
  | ((with_reducible apply Tr.x_naug); (exact rfl))
  | ((with_reducible apply Tr.x_naugv); (exact Nat.le_of_ble_eq_true rfl))
  | with_reducible refine Tr.x_xifE ?_)
namespace My
open PySem PySem.Spec PyProof.Rows L2 Tr
variable [Tabl]
section
variable {P : Sl → Prop} {x t : T} {z : Str} {cN : Str → Addr} {em : Value → Value → Option Bool} {r : RX} {q : List Str → List T → Prop}
abbrev frT (cN : Str → Addr) : T := rdT cN 1 2 0 0 .non .non (0, 0)
abbrev opT (cN : Str → Addr) : T := rdT cN 1 2 1 1 (.tup [.int 1, keyA, .int 0]) (.tup [.int 1, .tup [.tup [.str "a", .int 1]]]) (0, 0)
theorem m_read1 {v : T} (hx : x ∈ badQ) (p : r (.ref (cN "InvalidQuestion")) none) : wx_Reader_with_read cN r [.val (frT cN), .val x, .val v] P := by
  refine stx_Reader_with_read ?_
  (repeat left)
  refine m_need_question hx ?_
  (repeat left)
  exact p
theorem m_read2 (h : plain x = true) (e : isWithin x 0 1000000 = false) (p : r (.ref (cN "InvalidNumber")) (some ("given", x))) : wx_Reader_with_read cN r [.val (opT cN), .val keyA, .val x] P := by
  refine stx_Reader_with_read ?_
  (repeat left)
  refine n_need_question ?_
  (repeat left)
  refine m_need_number h e ?_
  (repeat left)
  exact p
theorem m_read3 (p : r (.ref (cN "Refused")) (some ("reason", .tup [.str "open"]))) : wx_Reader_with_read cN r [.val (opT cN), .val keyA, .val (.int 1000000)] P := by
  refine stx_Reader_with_read ?_
  (repeat left)
  refine n_need_question ?_
  (repeat left)
  refine n_need_number rfl (within_int (by decide) (by decide)) ?_
  (repeat left)
  exact p
theorem m_write1 (h : fitD x) (e : deedB x = false) (p : r (.ref (cN "InvalidDeed")) none) : wx_Reader_with_write cN r [.val (opT cN), .val x] P := by
  refine stx_Reader_with_write ?_
  (repeat left)
  refine m_need_deed h e ?_
  (repeat left)
  exact p
theorem m_write2 (h : fitD x) (e : deedB x = true) (p : r (.ref (cN "Refused")) (some ("reason", .tup [.str "open"]))) : wx_Reader_with_write cN r [.val (opT cN), .val x] P := by
  refine stx_Reader_with_write ?_
  (repeat left)
  refine n_need_deed h e ?_
  (repeat left)
  exact p
def badJ : List T := [.non, .int 3, .tup [.int 3], .tup [.int 3, .int 1, .int 1], .lst [.int 3, .int 1], .tup [.bl true, .int 1], .tup [.int 3, .int (-1)], .tup [.int 3, .str "1"], .dct [] []]
theorem r_is_insB (hx : x ∈ badJ) (p : P (B false)) : w_is_instant [.val x] P := by
  refine st_is_instant ?_
  unfold badJ at hx
  simp only [List.mem_cons, List.not_mem_nil, or_false] at hx
  rcases hx with rfl | rfl | rfl | rfl | rfl | rfl | rfl | rfl | rfl
  · (repeat left)
    exact p
  · (repeat left)
    exact p
  · (repeat left)
    exact p
  · (repeat left)
    exact p
  · (repeat left)
    exact p
  · (repeat left)
    refine r_is_within rfl ?_
    rw [show isWithin (.bl true) 0 999999999999999999999999999999999999999999999999999999999999 = false by decide +kernel]
    (repeat left)
    exact p
  · (repeat left)
    refine r_is_within rfl ?_
    rw [show isWithin (.int 3) 0 999999999999999999999999999999999999999999999999999999999999 = true by decide +kernel]
    (repeat left)
    refine r_is_within rfl ?_
    rw [show isWithin (.int (-1)) 0 999999999999999999999999999999999999999999999999999999999999 = false by decide +kernel]
    (repeat left)
    exact p
  · (repeat left)
    refine r_is_within rfl ?_
    rw [show isWithin (.int 3) 0 999999999999999999999999999999999999999999999999999999999999 = true by decide +kernel]
    (repeat left)
    refine r_is_within rfl ?_
    rw [show isWithin (.str "1") 0 999999999999999999999999999999999999999999999999999999999999 = false by decide +kernel]
    (repeat left)
    exact p
  · (repeat left)
    exact p
theorem m_need_ins (hx : x ∈ badJ) (p : r (.ref (cN "InvalidInstant")) none) : wx_need_instant cN r [.val x] P := by
  refine stx_need_instant ?_
  (repeat left)
  refine r_is_insB hx ?_
  (repeat left)
  exact p
abbrev W60 : Int := 999999999999999999999999999999999999999999999999999999999999
theorem m_ans1 {t v : T} (h : plain x = true) (e : isWithin x 1 W60 = false) (p : r (.ref (cN "InvalidNumber")) (some ("given", x))) : wx_Reader_answered cN r [.val t, .val x, .val v] P := by
  refine stx_Reader_answered ?_
  (repeat left)
  refine m_need_number h e ?_
  (repeat left)
  exact p
theorem m_ans2 {t : T} {j : Int} (h1 : 1 ≤ j) (h2 : j ≤ W60) (hx : x ∈ badJ) (p : r (.ref (cN "InvalidInstant")) none) : wx_Reader_answered cN r [.val t, .val (.int j), .val x] P := by
  refine stx_Reader_answered ?_
  (repeat left)
  refine n_need_number rfl (within_int h1 h2) ?_
  (repeat left)
  refine m_need_ins hx ?_
  (repeat left)
  exact p
theorem m_don1 {t v : T} (h : plain x = true) (e : isWithin x 1 W60 = false) (p : r (.ref (cN "InvalidNumber")) (some ("given", x))) : wx_Reader_heard_done cN r [.val t, .val x, .val v] P := by
  refine stx_Reader_heard_done ?_
  (repeat left)
  refine m_need_number h e ?_
  (repeat left)
  exact p
theorem m_don2 {t : T} {j : Int} (h1 : 1 ≤ j) (h2 : j ≤ W60) (hx : x ∈ badJ) (p : r (.ref (cN "InvalidInstant")) none) : wx_Reader_heard_done cN r [.val t, .val (.int j), .val x] P := by
  refine stx_Reader_heard_done ?_
  (repeat left)
  refine n_need_number rfl (within_int h1 h2) ?_
  (repeat left)
  refine m_need_ins hx ?_
  (repeat left)
  exact p
theorem m_drop {n pl rn wn : Int} {ow : T} {f : Int × Int} (p : r (.ref (cN "Refused")) (some ("reason", .tup [.str "none"]))) : wx_Reader_dropped cN r [.val (rdT cN n pl rn wn .non ow f)] P := by
  refine stx_Reader_dropped ?_
  (repeat left)
  exact p
end
end My


set_option Elab.async false
set_option linter.all false
set_option maxRecDepth 100000
set_option maxHeartbeats 0

local macro_rules | `(tactic| left) => `(tactic| first
  | with_reducible refine Tr.x_tw ?_
  | ((with_reducible apply Tr.x_twv); (decide +kernel))
  | with_reducible refine Tr.x_mkF ?_
  | with_reducible refine Tr.x_nput ?_
  | ((with_reducible apply Tr.x_nputv); (exact Nat.le_of_ble_eq_true rfl))
  | with_reducible refine Tr.x_nputS ?_
  | ((with_reducible apply Tr.x_naug); (exact rfl))
  | ((with_reducible apply Tr.x_naugv); (exact Nat.le_of_ble_eq_true rfl))
  | with_reducible refine Tr.x_xifE ?_)
namespace My
open PySem PySem.Spec PyProof.Rows L2 Tr
variable [Tabl]
section
variable {P : Sl → Prop} {x t : T} {z : Str} {cN : Str → Addr} {em : Value → Value → Option Bool} {r : RX} {q : List Str → List T → Prop}
theorem r_twin {n pl rn wn : Int} {oq ow : T} {f : Int × Int} (n0 : 0 ≤ n) (n1 : n ≤ 5) (p0 : 1 ≤ pl) (p1 : pl ≤ 6) (h : q namesR [.int n, .int pl, .int rn, .int wn, oq, ow, .tup [.int f.1, .int f.2]]) : w_Reader__twin cN [.val (rdT cN n pl rn wn oq ow f)] q := by
  refine ⟨rfl, ?_⟩
  show wMkF _ _ _ _ _ _ _
  (repeat left)
  refine ⟨rfl, r_init n0 n1 p0 p1 ⟨Nat.le_of_ble_eq_true rfl, ?_⟩⟩
  (repeat left)
  exact h
theorem r_need_questionK (p : P (.val .non)) : w_need_question [.val keyA] P := by
  refine st_need_question ?_
  (repeat left)
  refine r_is_q1 ?_
  (repeat left)
  exact p
theorem r_readK {n pl age : Int} (n0 : 0 ≤ n) (n1 : n ≤ 5) (p0 : 1 ≤ pl) (p1 : pl ≤ 6) (a0 : 0 ≤ age) (a1 : age ≤ 1000000) (p : P (.val (rdT cN n pl 1 0 (.tup [.int 1, keyA, .int age]) .non (0, 0)))) : w_Reader_with_read cN [.val (rdT cN n pl 0 0 .non .non (0, 0)), .val keyA, .val (.int age)] P := by
  refine st_Reader_with_read ?_
  (repeat left)
  refine r_need_questionK ?_
  (repeat left)
  refine r_need_number rfl (within_int a0 a1) ?_
  (repeat left)
  refine r_twin n0 n1 p0 p1 ⟨Nat.le_of_ble_eq_true rfl, ?_⟩
  simp only [List.set_cons_succ, List.set_cons_zero]
  (repeat left)
  refine x_nputSv rfl (Nat.le_of_ble_eq_true rfl) ?_
  exact p
abbrev dA : T := .tup [.tup [.str "a", .int 1]]
theorem dA_ok : fitD dA ∧ deedB dA = true := ⟨⟨rfl, fun us e => by
  injection e with e
  subst e
  refine ⟨Nat.le_of_ble_eq_true rfl, fun t ht => ?_⟩
  rw [List.mem_singleton.mp ht]
  exact ⟨rfl, fun vs e => by
    injection e with e
    subst e
    refine ⟨Nat.le_of_ble_eq_true rfl, fun t ht => ?_⟩
    simp only [List.mem_cons, List.not_mem_nil, or_false] at ht
    rcases ht with rfl | rfl
    · exact ⟨rfl, fun y e => by cases e; decide +kernel⟩
    · exact ⟨rfl, fun y e => by cases e⟩⟩⟩, by decide +kernel⟩
theorem r_writeK (p : P (.val (opT cN))) : w_Reader_with_write cN [.val (rdT cN 1 2 1 0 (.tup [.int 1, keyA, .int 0]) .non (0, 0)), .val dA] P := by
  refine st_Reader_with_write ?_
  (repeat left)
  refine st_need_deed ?_
  (repeat left)
  refine r_is_deed dA_ok.1 ?_
  rw [dA_ok.2]
  (repeat left)
  refine r_twin (by decide) (by decide) (by decide) (by decide) ⟨Nat.le_of_ble_eq_true rfl, ?_⟩
  simp only [List.set_cons_succ, List.set_cons_zero]
  (repeat left)
  refine x_nputSv rfl (Nat.le_of_ble_eq_true rfl) ?_
  exact p
theorem r_dropK (p : P (.val (rdT cN 1 2 1 1 .non (.tup [.int 1, dA]) (0, 0)))) : w_Reader_dropped cN [.val (opT cN)] P := by
  refine st_Reader_dropped ?_
  (repeat left)
  refine r_twin (by decide) (by decide) (by decide) (by decide) ⟨Nat.le_of_ble_eq_true rfl, ?_⟩
  simp only [List.set_cons_succ, List.set_cons_zero]
  (repeat left)
  exact p
theorem r_fallK (p : P (.val (rdT cN 1 2 1 1 .non (.tup [.int 1, dA]) (0, 0)))) : w_Reader_fallen cN [.val (opT cN)] P := by
  refine st_Reader_fallen ?_
  (repeat left)
  refine r_twin (by decide) (by decide) (by decide) (by decide) ⟨Nat.le_of_ble_eq_true rfl, ?_⟩
  simp only [List.set_cons_succ, List.set_cons_zero]
  (repeat left)
  exact p
end
end My


set_option Elab.async false
set_option linter.all false
set_option maxRecDepth 100000
set_option maxHeartbeats 0

local macro_rules | `(tactic| left) => `(tactic| first
  | with_reducible refine Tr.x_tw ?_
  | ((with_reducible apply Tr.x_twv); (decide +kernel))
  | with_reducible refine Tr.x_mkF ?_
  | with_reducible refine Tr.x_nput ?_
  | ((with_reducible apply Tr.x_nputv); (exact Nat.le_of_ble_eq_true rfl))
  | with_reducible refine Tr.x_nputS ?_
  | ((with_reducible apply Tr.x_naug); (exact rfl))
  | ((with_reducible apply Tr.x_naugv); (exact Nat.le_of_ble_eq_true rfl))
  | with_reducible refine Tr.x_xifE ?_)
namespace My
open PySem PySem.Spec PyProof.Rows L2 Tr
variable [Tabl]
section
variable {P : Sl → Prop} {x t : T} {z : Str} {cN : Str → Addr} {em : Value → Value → Option Bool} {r : RX} {q : List Str → List T → Prop}
abbrev twT (cN : Str → Addr) : T := rdT cN 2 1 0 0 .non .non (0, 0)
def badR (cN : Str → Addr) : List T := [.non, .lst [frT cN], frT cN, .tup [frT cN, .non], .tup [frT cN, frT cN], .tup [twT cN, frT cN], .str "readers", .dct [] [], .tup [.int 1]]
theorem asc_ints2 {a b : Int} (h : ¬ a < b) (p : P (B false)) : w_are_ascending [.val (.lst [.int a, .int b])] P := by
  refine st_are_ascending ?_
  have e1 : slT (.lst [.int a, .int b]) (some 1) none = some (.lst [.int b]) := rfl
  (repeat left)
  refine ⟨fun z => (nomatch z), fun z => (nomatch z), _, rfl, _, _, rfl, e1, _, _, .inl rfl, Nat.le_of_ble_eq_true rfl, ?_⟩
  refine collF2 (fun p : Int × Int => T.int p.1) (fun p => T.int p.2) (fun p => T.bl (decide (p.1 < p.2))) [(a, b)] [] (fun c hc R hR => ?_) ?_
  · (repeat left)
    exact hR
  · refine ⟨_, _, rfl, bl_map, ?_⟩
    rw [show ([(a, b)] : List (Int × Int)).all (fun p => decide (p.1 < p.2)) = false by
      rw [List.all_cons, decide_eq_false h]
      rfl]
    exact p
theorem m_readers (hx : x ∈ badR cN) (p : r (.ref (cN "InvalidOperation")) none) : wx__need_readers cN r [.val x] P := by
  refine stx__need_readers ?_
  unfold badR at hx
  simp only [List.mem_cons, List.not_mem_nil, or_false] at hx
  rcases hx with rfl | rfl | rfl | rfl | rfl | rfl | rfl | rfl | rfl
  · (repeat left)
    exact p
  · (repeat left)
    exact p
  · (repeat left)
    exact p
  · (repeat left)
    refine ⟨Nat.le_of_ble_eq_true rfl, collF (fun t : T => t) (fun t => T.bl (match t with | .ins _ _ _ => true | _ => false)) [frT cN, .non] [] (fun t ht R hR => ?_) ?_⟩
    · simp only [List.mem_cons, List.not_mem_nil, or_false] at ht
      rcases ht with rfl | rfl
      · (repeat left)
        exact hR
      · (repeat left)
        exact hR
    refine ⟨_, _, rfl, (bl_map (as := [frT cN, .non]) (f := fun t => match t with | .ins _ _ _ => true | _ => false)), ?_⟩
    (repeat left)
    exact p
  · (repeat left)
    refine ⟨Nat.le_of_ble_eq_true rfl, collF (fun t : T => t) (fun _ => T.bl true) [frT cN, frT cN] [] (fun t ht R hR => ?_) ?_⟩
    · simp only [List.mem_cons, List.not_mem_nil, or_false, or_self] at ht
      subst ht
      (repeat left)
      exact hR
    refine ⟨_, _, rfl, (bl_map (as := [frT cN, frT cN]) (f := fun _ => true)), ?_⟩
    rw [show ([frT cN, frT cN].all fun _ => true) = true from rfl]
    (repeat left)
    refine ⟨Nat.le_of_ble_eq_true rfl, collF (fun p : T × Int => p.1) (fun p => T.int p.2) [(frT cN, 1), (frT cN, 1)] [] (fun t ht R hR => ?_) ?_⟩
    · simp only [List.mem_cons, List.not_mem_nil, or_false] at ht
      rcases ht with rfl | rfl
      · (repeat left)
        exact hR
      · (repeat left)
        exact hR
    rw [List.nil_append]
    (repeat left)
    refine asc_ints2 (a := 1) (b := 1) (by decide) ?_
    (repeat left)
    exact p
  · (repeat left)
    refine ⟨Nat.le_of_ble_eq_true rfl, collF (fun t : T => t) (fun _ => T.bl true) [twT cN, frT cN] [] (fun t ht R hR => ?_) ?_⟩
    · simp only [List.mem_cons, List.not_mem_nil, or_false] at ht
      rcases ht with rfl | rfl
      · (repeat left)
        exact hR
      · (repeat left)
        exact hR
    refine ⟨_, _, rfl, (bl_map (as := [twT cN, frT cN]) (f := fun _ => true)), ?_⟩
    rw [show ([twT cN, frT cN].all fun _ => true) = true from rfl]
    (repeat left)
    refine ⟨Nat.le_of_ble_eq_true rfl, collF (fun p : T × Int => p.1) (fun p => T.int p.2) [(twT cN, 2), (frT cN, 1)] [] (fun t ht R hR => ?_) ?_⟩
    · simp only [List.mem_cons, List.not_mem_nil, or_false] at ht
      rcases ht with rfl | rfl
      · (repeat left)
        exact hR
      · (repeat left)
        exact hR
    rw [List.nil_append]
    (repeat left)
    refine asc_ints2 (a := 2) (b := 1) (by decide) ?_
    (repeat left)
    exact p
  · (repeat left)
    exact p
  · (repeat left)
    exact p
  · (repeat left)
    refine ⟨Nat.le_of_ble_eq_true rfl, collF (fun t : T => t) (fun _ => T.bl false) [.int 1] [] (fun t ht R hR => ?_) ?_⟩
    · rw [List.mem_singleton.mp ht]
      (repeat left)
      exact hR
    refine ⟨_, _, rfl, (bl_map (as := [T.int 1]) (f := fun _ => false)), ?_⟩
    (repeat left)
    exact p
theorem m_open_reads (hx : x ∈ badR cN) (p : r (.ref (cN "InvalidOperation")) none) : wx_open_reads cN r [.val x] P := by
  refine stx_open_reads ?_
  (repeat left)
  refine m_readers hx ?_
  exact p
theorem m_open_writes (hx : x ∈ badR cN) (p : r (.ref (cN "InvalidOperation")) none) : wx_open_writes cN r [.val x] P := by
  refine stx_open_writes ?_
  (repeat left)
  refine m_readers hx ?_
  exact p
end
end My


set_option Elab.async false
set_option linter.all false
set_option maxRecDepth 100000
set_option maxHeartbeats 0

local macro_rules | `(tactic| left) => `(tactic| first
  | with_reducible refine Tr.x_tw ?_
  | ((with_reducible apply Tr.x_twv); (decide +kernel))
  | with_reducible refine Tr.x_mkF ?_
  | with_reducible refine Tr.x_nput ?_
  | ((with_reducible apply Tr.x_nputv); (exact Nat.le_of_ble_eq_true rfl))
  | with_reducible refine Tr.x_nputS ?_
  | ((with_reducible apply Tr.x_naug); (exact rfl))
  | ((with_reducible apply Tr.x_naugv); (exact Nat.le_of_ble_eq_true rfl))
  | with_reducible refine Tr.x_xifE ?_)
namespace My
open PySem PySem.Spec PyProof.Rows L2 Tr
variable [Tabl]
section
variable {P : Sl → Prop} {x t : T} {z : Str} {cN : Str → Addr} {em : Value → Value → Option Bool} {r : RX} {q : List Str → List T → Prop}
theorem repr_of {d : PyData} (e : dat t = some d) (h : reprZ [t] = reprD [t]) (h1 : d.showable = true) (h2 : d.depth ≤ 60) (h3 : d.shown.length ≤ sizeLine) (hz : d.shown = z) : reprZ [t] = some (.str z) := by
  rw [h, reprD_of e h1 h2 h3, hz]
theorem repr_int {i : Int} (h : (PyData.int i).showable = true) (h3 : (PyData.int i).shown.length ≤ sizeLine) (hz : (PyData.int i).shown = z) : reprZ [.int i] = some (.str z) := repr_of (d := .int i) (by simp only [dat]) rfl h (by simp only [PyData.depth]; omega) h3 hz
theorem pw6 : powT (.int 10) (.int 6) = some (.int 1000000) := by
  have h : powOk 10 6 = true := by decide +kernel
  show (if powOk 10 6 = true then some (T.int ((10 : Int) ^ (6 : Int).toNat)) else none) = _
  rw [if_pos h]
  rfl
theorem pw59 : powT (.int 10) (.int 59) = some (.int 100000000000000000000000000000000000000000000000000000000000) := by
  have h : powOk 10 59 = true := by decide +kernel
  show (if powOk 10 59 = true then some (T.int ((10 : Int) ^ (59 : Int).toNat)) else none) = _
  rw [if_pos h]
  rfl
theorem pw60 : powT (.int 10) (.int 60) = some (.int 1000000000000000000000000000000000000000000000000000000000000) := by
  have h : powOk 10 60 = true := by decide +kernel
  show (if powOk 10 60 = true then some (T.int ((10 : Int) ^ (60 : Int).toNat)) else none) = _
  rw [if_pos h]
  rfl
theorem pw12 : powT (.int 10) (.int 12) = some (.int 1000000000000) := by
  have h : powOk 10 12 = true := by decide +kernel
  show (if powOk 10 12 = true then some (T.int ((10 : Int) ^ (12 : Int).toNat)) else none) = _
  rw [if_pos h]
  rfl
/-- a number that is refused, and how it is shown -/
structure BadN (lo hi : Int) (a : T) (z : Str) : Prop where
  p : plain a = true
  w : isWithin a lo hi = false
  g : reprZ [a] = some (.str z)
  s : z.cps.all (· < 0x110000) = true
def numN : List T := [T.non, .int (-1), .int 6, .bl true, .str "0", .tup [.int 0], .int 1000000000000000000000000000000000000000000000000000000000000]
theorem b_numN {a : T} (h : a ∈ numN) : ∃ z, BadN 0 5 a z := by
  simp only [numN, List.mem_cons, List.not_mem_nil, or_false] at h
  rcases h with rfl | rfl | rfl | rfl | rfl | rfl | rfl
  · exact ⟨PyData.none.shown, rfl, rfl, repr_of (d := .none) (by simp only [dat]) rfl (by decide +kernel) (by decide +kernel) (by decide +kernel) rfl, by decide +kernel⟩
  · exact ⟨(PyData.int (-1)).shown, rfl, by decide +kernel, repr_int (by decide +kernel) (by decide +kernel) rfl, by decide +kernel⟩
  · exact ⟨(PyData.int 6).shown, rfl, by decide +kernel, repr_int (by decide +kernel) (by decide +kernel) rfl, by decide +kernel⟩
  · exact ⟨(PyData.bool true).shown, rfl, rfl, repr_of (d := .bool true) (by simp only [dat]) rfl (by decide +kernel) (by decide +kernel) (by decide +kernel) rfl, by decide +kernel⟩
  · exact ⟨(PyData.str "0").shown, rfl, rfl, repr_of (d := .str "0") (by simp only [dat]) rfl (by decide +kernel) (by decide +kernel) (by decide +kernel) rfl, by decide +kernel⟩
  · exact ⟨(PyData.tuple [.int 0]).shown, rfl, rfl, repr_of (d := .tuple [.int 0]) (by simp only [dat, datAll]; rfl) rfl (by decide +kernel) (by decide +kernel) (by decide +kernel) rfl, by decide +kernel⟩
  · exact ⟨(PyData.int 1000000000000000000000000000000000000000000000000000000000000).shown, rfl, by decide +kernel, repr_int (by decide +kernel) (by decide +kernel) rfl, by decide +kernel⟩
def numP : List T := [T.non, .int 0, .int 7, .bl true, .str "1", .tup [.int 1], .int 1000000000000000000000000000000000000000000000000000000000000]
theorem b_numP {a : T} (h : a ∈ numP) : ∃ z, BadN 1 6 a z := by
  simp only [numP, List.mem_cons, List.not_mem_nil, or_false] at h
  rcases h with rfl | rfl | rfl | rfl | rfl | rfl | rfl
  · exact ⟨PyData.none.shown, rfl, rfl, repr_of (d := .none) (by simp only [dat]) rfl (by decide +kernel) (by decide +kernel) (by decide +kernel) rfl, by decide +kernel⟩
  · exact ⟨(PyData.int 0).shown, rfl, by decide +kernel, repr_int (by decide +kernel) (by decide +kernel) rfl, by decide +kernel⟩
  · exact ⟨(PyData.int 7).shown, rfl, by decide +kernel, repr_int (by decide +kernel) (by decide +kernel) rfl, by decide +kernel⟩
  · exact ⟨(PyData.bool true).shown, rfl, rfl, repr_of (d := .bool true) (by simp only [dat]) rfl (by decide +kernel) (by decide +kernel) (by decide +kernel) rfl, by decide +kernel⟩
  · exact ⟨(PyData.str "1").shown, rfl, rfl, repr_of (d := .str "1") (by simp only [dat]) rfl (by decide +kernel) (by decide +kernel) (by decide +kernel) rfl, by decide +kernel⟩
  · exact ⟨(PyData.tuple [.int 1]).shown, rfl, rfl, repr_of (d := .tuple [.int 1]) (by simp only [dat, datAll]; rfl) rfl (by decide +kernel) (by decide +kernel) (by decide +kernel) rfl, by decide +kernel⟩
  · exact ⟨(PyData.int 1000000000000000000000000000000000000000000000000000000000000).shown, rfl, by decide +kernel, repr_int (by decide +kernel) (by decide +kernel) rfl, by decide +kernel⟩
def numA : List T := [T.non, .int (-1), .int 1000001, .bl true, .str "1", .tup [.int 1], .int 1000000000000000000000000000000000000000000000000000000000000]
theorem b_numA {a : T} (h : a ∈ numA) : ∃ z, BadN 0 1000000 a z := by
  simp only [numA, List.mem_cons, List.not_mem_nil, or_false] at h
  rcases h with rfl | rfl | rfl | rfl | rfl | rfl | rfl
  · exact ⟨PyData.none.shown, rfl, rfl, repr_of (d := .none) (by simp only [dat]) rfl (by decide +kernel) (by decide +kernel) (by decide +kernel) rfl, by decide +kernel⟩
  · exact ⟨(PyData.int (-1)).shown, rfl, by decide +kernel, repr_int (by decide +kernel) (by decide +kernel) rfl, by decide +kernel⟩
  · exact ⟨(PyData.int 1000001).shown, rfl, by decide +kernel, repr_int (by decide +kernel) (by decide +kernel) rfl, by decide +kernel⟩
  · exact ⟨(PyData.bool true).shown, rfl, rfl, repr_of (d := .bool true) (by simp only [dat]) rfl (by decide +kernel) (by decide +kernel) (by decide +kernel) rfl, by decide +kernel⟩
  · exact ⟨(PyData.str "1").shown, rfl, rfl, repr_of (d := .str "1") (by simp only [dat]) rfl (by decide +kernel) (by decide +kernel) (by decide +kernel) rfl, by decide +kernel⟩
  · exact ⟨(PyData.tuple [.int 1]).shown, rfl, rfl, repr_of (d := .tuple [.int 1]) (by simp only [dat, datAll]; rfl) rfl (by decide +kernel) (by decide +kernel) (by decide +kernel) rfl, by decide +kernel⟩
  · exact ⟨(PyData.int 1000000000000000000000000000000000000000000000000000000000000).shown, rfl, by decide +kernel, repr_int (by decide +kernel) (by decide +kernel) rfl, by decide +kernel⟩
def numL : List T := [T.non, .int 0, .int (-1), .bl true, .str "1", .tup [.int 1], .int 1000000000000000000000000000000000000000000000000000000000000]
theorem b_numL {a : T} (h : a ∈ numL) : ∃ z, BadN 1 W60 a z := by
  simp only [numL, List.mem_cons, List.not_mem_nil, or_false] at h
  rcases h with rfl | rfl | rfl | rfl | rfl | rfl | rfl
  · exact ⟨PyData.none.shown, rfl, rfl, repr_of (d := .none) (by simp only [dat]) rfl (by decide +kernel) (by decide +kernel) (by decide +kernel) rfl, by decide +kernel⟩
  · exact ⟨(PyData.int 0).shown, rfl, by decide +kernel, repr_int (by decide +kernel) (by decide +kernel) rfl, by decide +kernel⟩
  · exact ⟨(PyData.int (-1)).shown, rfl, by decide +kernel, repr_int (by decide +kernel) (by decide +kernel) rfl, by decide +kernel⟩
  · exact ⟨(PyData.bool true).shown, rfl, rfl, repr_of (d := .bool true) (by simp only [dat]) rfl (by decide +kernel) (by decide +kernel) (by decide +kernel) rfl, by decide +kernel⟩
  · exact ⟨(PyData.str "1").shown, rfl, rfl, repr_of (d := .str "1") (by simp only [dat]) rfl (by decide +kernel) (by decide +kernel) (by decide +kernel) rfl, by decide +kernel⟩
  · exact ⟨(PyData.tuple [.int 1]).shown, rfl, rfl, repr_of (d := .tuple [.int 1]) (by simp only [dat, datAll]; rfl) rfl (by decide +kernel) (by decide +kernel) (by decide +kernel) rfl, by decide +kernel⟩
  · exact ⟨(PyData.int 1000000000000000000000000000000000000000000000000000000000000).shown, rfl, by decide +kernel, repr_int (by decide +kernel) (by decide +kernel) rfl, by decide +kernel⟩
end
local macro_rules | `(tactic| left) => `(tactic| first
  | with_reducible refine Tr.x_op2 My.pw6 ?_
  | with_reducible refine Tr.x_op2 My.pw12 ?_
  | with_reducible refine Tr.x_op2 My.pw60 ?_)
section
variable {P : Sl → Prop} {x t : T} {z : Str} {cN : Str → Addr} {em : Value → Value → Option Bool} {r : RX} {q : List Str → List T → Prop}
def badD : List T := [.non, .tup [], .tup [.str "a", .int 3], .tup [.tup [.str "A", .int 3]], .lst [.tup [.str "a", .int 3]], .tup [.tup [.str "b", .int 1], .tup [.str "a", .int 1]], .dct [] [], .int 3, .tup [.tup [.str "a", .str "x"]], .tup [.tup [.str "a", .int 1000000000000]]]
theorem fit_no (hf : fl x = true) (h : ∀ ts, x ≠ .tup ts) : fitD x := ⟨hf, fun ts e => absurd e (h ts)⟩
theorem fit_tp {ts : List T} (h : ts.length ≤ 1000) (ha : ∀ t ∈ ts, fitS t) : fitD (.tup ts) := ⟨rfl, fun us e => by
  injection e with e
  subst e
  exact ⟨h, ha⟩⟩
theorem fs_no (hf : fl x = true) (h : ∀ ts, x ≠ .tup ts) : fitS x := ⟨hf, fun ts e => absurd e (h ts)⟩
theorem fs_pair {z : Str} {v : T} (h : z.length ≤ 1000) (hv : fit1 v) : fitS (.tup [.str z, v]) := ⟨rfl, fun ts e => by
  injection e with e
  subst e
  refine ⟨Nat.le_of_ble_eq_true rfl, fun t ht => ?_⟩
  simp only [List.mem_cons, List.not_mem_nil, or_false] at ht
  rcases ht with rfl | rfl
  · exact ⟨rfl, fun y e => by cases e; exact h⟩
  · exact hv⟩
theorem f1_int {i : Int} : fit1 (.int i) := ⟨rfl, fun y e => by cases e⟩
theorem b_deed (hx : x ∈ badD) : fitD x ∧ deedB x = false := by
  unfold badD at hx
  simp only [List.mem_cons, List.not_mem_nil, or_false] at hx
  rcases hx with rfl | rfl | rfl | rfl | rfl | rfl | rfl | rfl | rfl | rfl
  · exact ⟨fit_no rfl (fun _ e => by cases e), rfl⟩
  · exact ⟨fit_tp (Nat.le_of_ble_eq_true rfl) (fun t ht => by cases ht), by decide +kernel⟩
  · refine ⟨fit_tp (Nat.le_of_ble_eq_true rfl) (fun t ht => ?_), by decide +kernel⟩
    simp only [List.mem_cons, List.not_mem_nil, or_false] at ht
    rcases ht with rfl | rfl
    · exact fs_no rfl (fun _ e => by cases e)
    · exact fs_no rfl (fun _ e => by cases e)
  · refine ⟨fit_tp (Nat.le_of_ble_eq_true rfl) (fun t ht => ?_), by decide +kernel⟩
    rw [List.mem_singleton.mp ht]
    exact fs_pair (by decide +kernel) f1_int
  · exact ⟨fit_no rfl (fun _ e => by cases e), rfl⟩
  · refine ⟨fit_tp (Nat.le_of_ble_eq_true rfl) (fun t ht => ?_), by decide +kernel⟩
    simp only [List.mem_cons, List.not_mem_nil, or_false] at ht
    rcases ht with rfl | rfl
    · exact fs_pair (by decide +kernel) f1_int
    · exact fs_pair (by decide +kernel) f1_int
  · exact ⟨fit_no rfl (fun _ e => by cases e), rfl⟩
  · exact ⟨fit_no rfl (fun _ e => by cases e), rfl⟩
  · refine ⟨fit_tp (Nat.le_of_ble_eq_true rfl) (fun t ht => ?_), by decide +kernel⟩
    rw [List.mem_singleton.mp ht]
    exact fs_pair (by decide +kernel) ⟨rfl, fun y e => by cases e; decide +kernel⟩
  · refine ⟨fit_tp (Nat.le_of_ble_eq_true rfl) (fun t ht => ?_), by decide +kernel⟩
    rw [List.mem_singleton.mp ht]
    exact fs_pair (by decide +kernel) f1_int
theorem sh_num (h : z.cps.all (· < 0x110000) = true) : sh 7 (.tup [.str "refused", .str "number", .str z]) = true := by
  show ([T.str "refused", T.str "number", T.str z].all (sh 6)) = true
  rw [List.all_cons, List.all_cons, List.all_cons, show sh 6 (.str "refused") = true by decide +kernel, show sh 6 (.str "number") = true by decide +kernel, show sh 6 (.str z) = true from h]
  rfl
theorem sh_w1 : sh 7 (refU "question") = true ∧ sh 7 (refU "deed") = true ∧ sh 7 (refU "instant") = true ∧ sh 7 (refU "operation") = true ∧ sh 7 (.tup [.str "refused", .str "reason", .tup [.str "open"]]) = true ∧ sh 7 (.tup [.str "refused", .str "reason", .tup [.str "none"]]) = true := by decide +kernel
theorem sh_due {z1 z2 z3 z4 : Str} (h1 : z1.cps.all (· < 0x110000) = true) (h2 : z2.cps.all (· < 0x110000) = true) (h3 : z3.cps.all (· < 0x110000) = true) (h4 : z4.cps.all (· < 0x110000) = true) (L : List T) (hL : ∀ t ∈ L, t ∈ [refU "question", refU "deed", refU "instant", refU "operation", .tup [.str "refused", .str "reason", .tup [.str "open"]], .tup [.str "refused", .str "reason", .tup [.str "none"]], .tup [.str "refused", .str "number", .str z1], .tup [.str "refused", .str "number", .str z2], .tup [.str "refused", .str "number", .str z3], .tup [.str "refused", .str "number", .str z4]]) : sh 8 (.lst L) = true := List.all_eq_true.mpr fun t ht => by
  have := hL t ht
  obtain ⟨w1, w2, w3, w4, w5, w6⟩ := sh_w1
  simp only [List.mem_cons, List.not_mem_nil, or_false] at this
  rcases this with rfl | rfl | rfl | rfl | rfl | rfl | rfl | rfl | rfl | rfl
  · exact w1
  · exact w2
  · exact w3
  · exact w4
  · exact w5
  · exact w6
  · exact sh_num h1
  · exact sh_num h2
  · exact sh_num h3
  · exact sh_num h4
theorem r_right (hem : EmOk cN em NE5) (p : P (B true)) : w__law_right cN em [.dice] P := by
  refine st__law_right ?_
  (repeat left)
  refine r_pick_lst (by show 0 < 7; decide) (by show 7 ≤ 1000; decide) fun number hn => ?_
  obtain ⟨z1, hN⟩ := b_numN (a := number) hn
  clear hn
  (repeat left)
  refine r_pick_lst (by show 0 < 7; decide) (by show 7 ≤ 1000; decide) fun place hn => ?_
  obtain ⟨z2, hP⟩ := b_numP (a := place) hn
  clear hn
  (repeat left)
  refine r_pick_lst (by show 0 < 9; decide) (by show 9 ≤ 1000; decide) fun question hq => ?_
  have hQ : question ∈ badQ := hq
  clear hq
  (repeat left)
  refine r_pick_lst (by show 0 < 7; decide) (by show 7 ≤ 1000; decide) fun age hn => ?_
  obtain ⟨z3, hA⟩ := b_numA (a := age) hn
  clear hn
  (repeat left)
  refine r_pick_lst (by show 0 < 10; decide) (by show 10 ≤ 1000; decide) fun deed hn => ?_
  obtain ⟨hD1, hD2⟩ := b_deed (x := deed) hn
  clear hn
  (repeat left)
  refine r_pick_lst (by show 0 < 7; decide) (by show 7 ≤ 1000; decide) fun least hn => ?_
  obtain ⟨z4, hL⟩ := b_numL (a := least) hn
  clear hn
  (repeat left)
  refine r_pick_lst (by show 0 < 9; decide) (by show 9 ≤ 1000; decide) fun none hn => ?_
  have hJ : none ∈ badJ := hn
  clear hn
  (repeat left)
  refine r_init (by decide) (by decide) (by decide) (by decide) ?_
  (repeat left)
  refine r_readK (n := 1) (pl := 2) (age := 0) (by decide) (by decide) (by decide) (by decide) (by decide) (by decide) ?_
  (repeat left)
  refine r_writeK ?_
  (repeat left)
  refine r_init (by decide) (by decide) (by decide) (by decide) ?_
  (repeat left)
  refine r_pick_lst (by show 0 < 9; decide) (by show 9 ≤ 1000; decide) fun rows hn => ?_
  have hR : rows ∈ badR cN := hn
  clear hn
  (repeat left)
  refine m_init1 hN.p hN.w ?_
  refine met_number hem hN.g ?_
  (repeat left)
  refine m_init2 (by decide) (by decide) hP.p hP.w ?_
  refine met_number hem hP.g ?_
  (repeat left)
  refine m_read1 hQ ?_
  refine met_question hem ?_
  (repeat left)
  refine m_read2 hA.p hA.w ?_
  refine met_number hem hA.g ?_
  (repeat left)
  refine m_read3 ?_
  refine met_reason hem ?_
  (repeat left)
  refine m_write1 hD1 hD2 ?_
  refine met_deed hem ?_
  (repeat left)
  refine m_write2 dA_ok.1 dA_ok.2 ?_
  refine met_reason hem ?_
  (repeat left)
  refine m_ans1 hL.p hL.w ?_
  refine met_number hem hL.g ?_
  (repeat left)
  refine m_ans2 (j := 1) (by decide) (by decide) hJ ?_
  refine met_instant hem ?_
  (repeat left)
  refine m_don1 hL.p hL.w ?_
  refine met_number hem hL.g ?_
  (repeat left)
  refine m_don2 (j := 9) (by decide) (by decide) hJ ?_
  refine met_instant hem ?_
  (repeat left)
  refine m_drop (f := (0, 0)) ?_
  refine met_reason hem ?_
  (repeat left)
  refine r_dropK ?_
  (repeat left)
  refine m_drop (f := (0, 0)) ?_
  refine met_reason hem ?_
  (repeat left)
  refine r_fallK ?_
  (repeat left)
  refine m_drop (f := (0, 0)) ?_
  refine met_reason hem ?_
  (repeat left)
  refine m_open_reads hR ?_
  refine met_op hem ?_
  (repeat left)
  refine m_open_writes hR ?_
  refine met_op hem ?_
  (repeat left)
  refine x_repr hL.g ?_
  (repeat left)
  refine x_repr hN.g ?_
  (repeat left)
  refine x_repr hP.g ?_
  (repeat left)
  refine x_repr hA.g ?_
  (repeat left)
  refine x_op2 (eqT_self (t := .lst _) ?_) ?_
  · refine sh_due hN.s hP.s hA.s hL.s _ fun t ht => ?_
    simp only [List.cons_append, List.nil_append, List.mem_cons, List.not_mem_nil, or_false] at ht ⊢
    rcases ht with rfl | rfl | rfl | rfl | rfl | rfl | rfl | rfl | rfl | rfl | rfl | rfl | rfl | rfl | rfl | rfl <;> simp
  · exact p
end
end My


set_option Elab.async false
set_option linter.all false
set_option maxRecDepth 100000
set_option maxHeartbeats 0

local macro_rules | `(tactic| left) => `(tactic| first
  | with_reducible refine Tr.x_tw ?_
  | ((with_reducible apply Tr.x_twv); (decide +kernel))
  | with_reducible refine Tr.x_mkF ?_
  | with_reducible refine Tr.x_nput ?_
  | ((with_reducible apply Tr.x_nputv); (exact Nat.le_of_ble_eq_true rfl))
  | with_reducible refine Tr.x_nputS ?_
  | ((with_reducible apply Tr.x_naug); (exact rfl))
  | ((with_reducible apply Tr.x_naugv); (exact Nat.le_of_ble_eq_true rfl))
  | with_reducible refine Tr.x_xifE ?_)
namespace My
open PySem PySem.Spec PyProof.Rows L2 Tr
variable [Tabl]
local macro_rules | `(tactic| left) => `(tactic| first
  | with_reducible refine Tr.x_op2 My.pw6 ?_
  | with_reducible refine Tr.x_op2 My.pw59 ?_)
section
variable {P : Sl → Prop} {x t : T} {z : Str} {cN : Str → Addr} {em : Value → Value → Option Bool} {r : RX} {q : List Str → List T → Prop}
theorem n_read {n pl age : Int} (n0 : 0 ≤ n) (n1 : n ≤ 5) (p0 : 1 ≤ pl) (p1 : pl ≤ 6) (a0 : 0 ≤ age) (a1 : age ≤ 1000000) (p : P (.val (rdT cN n pl 1 0 (.tup [.int 1, keyA, .int age]) .non (0, 0)))) : wx_Reader_with_read cN r [.val (rdT cN n pl 0 0 .non .non (0, 0)), .val keyA, .val (.int age)] P := by
  refine stx_Reader_with_read ?_
  (repeat left)
  refine n_need_question ?_
  (repeat left)
  refine n_need_number rfl (within_int a0 a1) ?_
  (repeat left)
  refine r_twin n0 n1 p0 p1 ⟨Nat.le_of_ble_eq_true rfl, ?_⟩
  simp only [List.set_cons_succ, List.set_cons_zero]
  (repeat left)
  refine x_nputSv rfl (Nat.le_of_ble_eq_true rfl) ?_
  exact p
theorem n_ans {n pl j : Int} (h1 : 1 ≤ j) (h2 : j ≤ W60) (p : P (.val (rdT cN n pl 0 0 .non .non (0, 0)))) : wx_Reader_answered cN r [.val (rdT cN n pl 0 0 .non .non (0, 0)), .val (.int j), .val (.tup [.int 0, .int 0])] P := by
  refine stx_Reader_answered ?_
  (repeat left)
  refine n_need_number rfl (within_int h1 h2) ?_
  (repeat left)
  refine n_need_instant ⟨by decide, by decide⟩ ⟨by decide, by decide⟩ ?_
  (repeat left)
  exact p
theorem asc_no (p : P (B true)) : w_are_ascending [.val (.lst [])] P := by
  refine st_are_ascending ?_
  have e1 : slT (.lst []) (some 1) none = some (.lst []) := rfl
  (repeat left)
  refine ⟨fun z => (nomatch z), fun z => (nomatch z), _, rfl, _, _, rfl, e1, _, _, .inl rfl, Nat.le_of_ble_eq_true rfl, ?_⟩
  refine collF2 (fun p : Int × Int => T.int p.1) (fun p => T.int p.2) (fun p => T.bl (decide (p.1 < p.2))) [] [] (fun c hc R hR => nomatch hc) ?_
  · refine ⟨_, _, rfl, bl_map, ?_⟩
    exact p
theorem n_open0 (p : P (.val (.tup []))) : wx_open_reads cN r [.val (.tup [])] P := by
  refine stx_open_reads ?_
  (repeat left)
  refine stx__need_readers ?_
  (repeat left)
  refine ⟨Nat.le_of_ble_eq_true rfl, collF (fun t : T => t) (fun _ => T.bl true) [] [] (fun t ht R hR => (nomatch ht)) ?_⟩
  refine ⟨_, _, rfl, (bl_map (as := ([] : List T)) (f := fun _ => true)), ?_⟩
  rw [show (([] : List T).all fun _ => true) = true from rfl]
  (repeat left)
  refine ⟨Nat.le_of_ble_eq_true rfl, collF (fun t : T => t) (fun p => T.int 0) [] [] (fun t ht R hR => (nomatch ht)) ?_⟩
  (repeat left)
  refine asc_no ?_
  (repeat left)
  refine ⟨Nat.le_of_ble_eq_true rfl, ?_⟩
  unfold wColl
  (repeat left)
  exact p
theorem r_law (hem : EmOk cN em NE5) {ns : List Int} (hl : ns.length ≤ 63) (p : P (B true)) : w_law cN em [.val (.scr (ns.map T.int))] P := by
  refine st_law ?_
  (repeat left)
  generalize hN : (if (if ((ns.map T.int).length : Int) < 4 then ((ns.map T.int).length : Int) else 4) > 1 then (if ((ns.map T.int).length : Int) < 4 then ((ns.map T.int).length : Int) else 4) else 1) = N
  have hb : 1 ≤ N ∧ N ≤ 4 := by
    rw [← hN]
    split <;> split <;> omega
  (repeat left)
  refine for_inv (fun ts sl => (∀ t ∈ ts, ∃ j : Int, t = .int j ∧ 0 ≤ j ∧ j < 64) ∧ ∃ c, sl = [.val (.scr (ns.map T.int)), c, .any]) ?_ ?_ _ _ ⟨?_, _, rfl⟩
  · rintro sl ⟨-, c, rfl⟩
    (repeat left)
    refine r_init (by decide) (by decide) (by decide) (by decide) ?_
    (repeat left)
    refine n_read (n := 5) (pl := 6) (age := 1000000) (by decide) (by decide) (by decide) (by decide) (by decide) (by decide) ?_
    (repeat left)
    refine r_init (by decide) (by decide) (by decide) (by decide) ?_
    (repeat left)
    refine n_ans (n := 0) (pl := 1) (by decide) (by decide) ?_
    (repeat left)
    refine n_open0 ?_
    (repeat left)
    refine x_op2 (show mulT (.lst [.tup [.str "fine"]]) (.int 3) = some (.lst [.tup [.str "fine"], .tup [.str "fine"], .tup [.str "fine"]]) from rfl) ?_
    (repeat left)
    exact p
  · rintro t ts sl N2 ⟨ht, c, rfl⟩ hN2
    obtain ⟨j, rfl, j0, j1⟩ := ht t List.mem_cons_self
    refine ⟨[.val (.scr (ns.map T.int)), .val (.int j), .any], rfl, ?_⟩
    (repeat left)
    refine ⟨rfl, ⟨ns, j, rfl, hl, j0, j1⟩, ?_⟩
    refine r_right hem ?_
    (repeat left)
    exact hN2 _ ⟨fun u hu => ht u (List.mem_cons_of_mem _ hu), _, rfl⟩
  · intro t ht
    unfold Tr.upTo at ht
    obtain ⟨j, hj, rfl⟩ := List.mem_map.mp ht
    have := List.mem_range.mp hj
    exact ⟨_, rfl, by omega, by omega⟩
end
end My


set_option Elab.async false
set_option linter.all false
set_option maxRecDepth 100000
set_option maxHeartbeats 0
namespace My
open PySem PySem.Spec PyProof.Rows L2 Tr

theorem facts [Tabl] {P : Program} {w : World} {K : PySem.W.Frag} {h : Heap} {mg : Str → Option Value} {f : Addr} (X : K.In h) (G : h.Ns mainGlobals mg) (hfa : mg ("law" : Str) = some (.ref f)) (c : He.SaysD fa fn K) (hex : ex K = true) (HT : ∀ p ∈ lamT K, p ∈ Tabl.T) (htb : ∀ t ∈ tbs, ∃ es n, KDict K w (t.1 K) es n) :
    ∃ fd : FuncData, (∀ (s : Shared) (v : Value), BindsTo s fd ⟨[v], []⟩ [("script", v)]) ∧ EmOk (He.ga K) (PySem.W.exmOne K) ["InvalidDeed", "InvalidInstant", "InvalidOperation", "InvalidQuestion", "InvalidNumber", "Refused"] ∧ ∀ base : Heap, K.In base → base.Ns mainGlobals mg → (∀ p ∈ tf.map (He.cT K), LamX.TabB base mg p.1 p.2) → FnG P w K mg base CX0 51 f fd ["script"] (spT K (w_law (He.ga K) (PySem.W.exmOne K))) := by
  unfold ex at hex
  simp only [Bool.and_eq_true, and_true] at hex
  obtain ⟨x0, x1, x2, x3, x4, x5, x6, x7, x8, x9, x10, x11, x12, x13⟩ := hex
  obtain ⟨fd0, F0⟩ := c.def_ 0 (d := d0) rfl
  obtain ⟨fd1, F1⟩ := c.def_ 1 (d := d1) rfl
  have g1 := He.glo_ok X G (c.fact 0 (f := .glo "_law_roll") rfl)
  obtain ⟨fd2, F2⟩ := c.def_ 2 (d := d2) rfl
  have g2 := He.glo_ok X G (c.fact 1 (f := .glo "_law_pick") rfl)
  obtain ⟨fd3, F3⟩ := c.def_ 3 (d := d3) rfl
  have g3 := He.glo_ok X G (c.fact 2 (f := .glo "is_whole") rfl)
  obtain ⟨fd4, F4⟩ := c.def_ 4 (d := d4) rfl
  have g4 := He.glo_ok X G (c.fact 3 (f := .glo "is_within") rfl)
  obtain ⟨fd5, F5⟩ := c.def_ 5 (d := d5) rfl
  have g5 := He.glo_ok X G (c.fact 4 (f := .glo "need_number") rfl)
  obtain ⟨fd6, F6⟩ := c.def_ 6 (d := d6) rfl
  obtain ⟨fd7, F7⟩ := c.def_ 7 (d := d7) rfl
  have g7 := He.glo_ok X G (c.fact 5 (f := .glo "are_ascending") rfl)
  obtain ⟨fd8, F8⟩ := c.def_ 8 (d := d8) rfl
  have g8 := He.glo_ok X G (c.fact 6 (f := .glo "is_key") rfl)
  obtain ⟨fd9, F9⟩ := c.def_ 9 (d := d9) rfl
  have g9 := He.glo_ok X G (c.fact 7 (f := .glo "is_value") rfl)
  obtain ⟨fd10, F10⟩ := c.def_ 10 (d := d10) rfl
  have g10 := He.glo_ok X G (c.fact 8 (f := .glo "is_value_or_none") rfl)
  obtain ⟨fd11, F11⟩ := c.def_ 11 (d := d11) rfl
  have g11 := He.glo_ok X G (c.fact 9 (f := .glo "_is_setting") rfl)
  obtain ⟨fd12, F12⟩ := c.def_ 12 (d := d12) rfl
  have g12 := He.glo_ok X G (c.fact 10 (f := .glo "is_deed") rfl)
  obtain ⟨fd13, F13⟩ := c.def_ 13 (d := d13) rfl
  have g13 := He.glo_ok X G (c.fact 11 (f := .glo "need_deed") rfl)
  obtain ⟨fd14, F14⟩ := c.def_ 14 (d := d14) rfl
  obtain ⟨fd15, F15⟩ := c.def_ 15 (d := d15) rfl
  obtain ⟨fd16, F16⟩ := c.def_ 16 (d := d16) rfl
  have g16 := He.glo_ok X G (c.fact 12 (f := .glo "_size_of_sides") rfl)
  obtain ⟨fd17, F17⟩ := c.def_ 17 (d := d17) rfl
  have g17 := He.glo_ok X G (c.fact 13 (f := .glo "_is_row_of_keys") rfl)
  obtain ⟨fd18, F18⟩ := c.def_ 18 (d := d18) rfl
  have g18 := He.glo_ok X G (c.fact 14 (f := .glo "_size_of_leaf") rfl)
  obtain ⟨fd19, F19⟩ := c.def_ 19 (d := d19) rfl
  have g19 := He.glo_ok X G (c.fact 15 (f := .glo "size_within") rfl)
  obtain ⟨fd20, F20⟩ := c.def_ 20 (d := d20) rfl
  have g20 := He.glo_ok X G (c.fact 16 (f := .glo "is_question") rfl)
  obtain ⟨fd21, F21⟩ := c.def_ 21 (d := d21) rfl
  have g21 := He.glo_ok X G (c.fact 17 (f := .glo "need_question") rfl)
  obtain ⟨fd22, F22⟩ := c.def_ 22 (d := d22) rfl
  obtain ⟨fd23, F23⟩ := c.def_ 23 (d := d23) rfl
  have g23 := He.glo_ok X G (c.fact 18 (f := .glo "_need_readers") rfl)
  obtain ⟨fd24, F24⟩ := c.def_ 24 (d := d24) rfl
  have g24 := He.glo_ok X G (c.fact 19 (f := .glo "open_reads") rfl)
  obtain ⟨fd25, F25⟩ := c.def_ 25 (d := d25) rfl
  have g25 := He.glo_ok X G (c.fact 20 (f := .glo "open_writes") rfl)
  obtain ⟨fd26, F26⟩ := c.def_ 26 (d := d26) rfl
  have g26 := He.glo_ok X G (c.fact 21 (f := .glo "is_instant") rfl)
  obtain ⟨fd27, F27⟩ := c.def_ 27 (d := d27) rfl
  have g27 := He.glo_ok X G (c.fact 22 (f := .glo "need_instant") rfl)
  obtain ⟨fd28, F28⟩ := c.def_ 28 (d := d28) rfl
  have g28 := He.glo_ok X G (c.fact 23 (f := .glo "joined_floor") rfl)
  obtain ⟨fd29, F29⟩ := c.def_ 29 (d := d29) rfl
  obtain ⟨fd30, F30⟩ := c.def_ 30 (d := d30) rfl
  obtain ⟨fd31, F31⟩ := c.def_ 31 (d := d31) rfl
  obtain ⟨fd32, F32⟩ := c.def_ 32 (d := d32) rfl
  obtain ⟨fd33, F33⟩ := c.def_ 33 (d := d33) rfl
  have g33 := He.glo_ok X G (c.fact 24 (f := .glo "_law_dice") rfl)
  obtain ⟨fd34, F34⟩ := c.def_ 34 (d := d34) rfl
  have g34 := He.glo_ok X G (c.fact 25 (f := .glo "_law_met") rfl)
  obtain ⟨fd35, F35⟩ := c.def_ 35 (d := d35) rfl
  have g35 := He.glo_ok X G (c.fact 26 (f := .glo "_law_right") rfl)
  obtain ⟨fd36, F36⟩ := c.def_ 36 (d := d36) rfl
  have g36 := He.glo_ok X G (c.fact 27 (f := .glo "law") rfl)
  obtain ⟨fd37, F37⟩ := c.def_ 37 (d := d37) rfl
  obtain ⟨fd38, F38⟩ := c.def_ 38 (d := d38) rfl
  have mg_Reader := He.glo_ok X G (c.fact 37 (f := .glo "Reader") rfl)
  have cl_Reader := He.cls_ok (c.fact 28 (f := .cls "Reader") rfl)
  have IS_Reader := insB_ok cl_Reader x0
  have KD_SIDES := kd_ok (He.glo_ok X G (c.fact 54 (f := .glo "SIDES") rfl)) (htb _ List.mem_cons_self) x1
  have KIN_SIDES := kin_ok (He.glo_ok X G (c.fact 54 (f := .glo "SIDES") rfl)) (htb _ List.mem_cons_self) x2
  have nA_Reader_floor := He.noat_ok (c.fact 29 (f := .noat "Reader" "floor") rfl)
  have nA_Reader_open_write := He.noat_ok (c.fact 30 (f := .noat "Reader" "open_write") rfl)
  have nA_Reader_open_read := He.noat_ok (c.fact 31 (f := .noat "Reader" "open_read") rfl)
  have nA_Reader_write_number := He.noat_ok (c.fact 32 (f := .noat "Reader" "write_number") rfl)
  have nA_Reader_read_number := He.noat_ok (c.fact 33 (f := .noat "Reader" "read_number") rfl)
  have nA_Reader_place := He.noat_ok (c.fact 34 (f := .noat "Reader" "place") rfl)
  have nA_Reader_number := He.noat_ok (c.fact 35 (f := .noat "Reader" "number") rfl)
  have b_isinstance := He.free_ok X G (c.fact 36 (f := .free "isinstance") rfl)
  have b_int := He.free_ok X G (c.fact 38 (f := .free "int") rfl)
  have b_len := He.free_ok X G (c.fact 39 (f := .free "len") rfl)
  have b_bool := He.free_ok X G (c.fact 40 (f := .free "bool") rfl)
  have c_MOST_WHOLE := He.int_ok X G (c.fact 41 (f := .int "MOST_WHOLE" 999999999999999999999999999999999999999999999999999999999999) rfl)
  have c__MOST_READER := He.int_ok X G (c.fact 42 (f := .int "_MOST_READER" 5) rfl)
  have c__MOST_PLACE := He.int_ok X G (c.fact 43 (f := .int "_MOST_PLACE" 6) rfl)
  have b_all := He.free_ok X G (c.fact 44 (f := .free "all") rfl)
  have b_zip := He.free_ok X G (c.fact 45 (f := .free "zip") rfl)
  have c_MOST_KEY := He.int_ok X G (c.fact 46 (f := .int "MOST_KEY" 8) rfl)
  have b_str := He.free_ok X G (c.fact 47 (f := .free "str") rfl)
  have c__LETTERS := He.str_ok X G (c.fact 48 (f := .str "_LETTERS" "abcdefghijklmnopqrstuvwxyz") rfl)
  have c_MOST_VALUE := He.int_ok X G (c.fact 49 (f := .int "MOST_VALUE" 999999999999) rfl)
  have b_tuple := He.free_ok X G (c.fact 50 (f := .free "tuple") rfl)
  have c_MOST_SET := He.int_ok X G (c.fact 51 (f := .int "MOST_SET" 6) rfl)
  have c_MAX_SIZE := He.int_ok X G (c.fact 55 (f := .int "MAX_SIZE" 40) rfl)
  have c_MOST_AGE := He.int_ok X G (c.fact 56 (f := .int "MOST_AGE" 1000000) rfl)
  have b_max := He.free_ok X G (c.fact 57 (f := .free "max") rfl)
  have b_abs := He.free_ok X G (c.fact 58 (f := .free "abs") rfl)
  have b_repr := He.free_ok X G (c.fact 63 (f := .free "repr") rfl)
  have b_range := He.free_ok X G (c.fact 72 (f := .free "range") rfl)
  have b_min := He.free_ok X G (c.fact 73 (f := .free "min") rfl)
  have b_IndexError := He.free_ok X G (c.fact 74 (f := .free "IndexError") rfl)
  have b_ArithmeticError := He.free_ok X G (c.fact 75 (f := .free "ArithmeticError") rfl)
  have IX_Reader_tuple := isxB_ok cl_Reader x3
  have XF_Refused := xfdB_ok x4
  have XF_InvalidNumber := xfdB_ok x5
  have EX_InvalidDeed := exB_ok x6
  have EX_InvalidQuestion := exB_ok x7
  have EX_InvalidOperation := exB_ok x8
  have EX_InvalidInstant := exB_ok x9
  have hem := emB_ok x12
  have mg_SIDES := He.glo_ok X G (c.fact 54 (f := .glo "SIDES") rfl)
  have mg_Refused := He.glo_ok X G (c.fact 61 (f := .glo "Refused") rfl)
  have mg_InvalidNumber := He.glo_ok X G (c.fact 62 (f := .glo "InvalidNumber") rfl)
  have mg_InvalidQuestion := He.glo_ok X G (c.fact 64 (f := .glo "InvalidQuestion") rfl)
  have mg_InvalidOperation := He.glo_ok X G (c.fact 65 (f := .glo "InvalidOperation") rfl)
  have mg_InvalidInstant := He.glo_ok X G (c.fact 66 (f := .glo "InvalidInstant") rfl)
  have mg_InvalidDeed := He.glo_ok X G (c.fact 67 (f := .glo "InvalidDeed") rfl)
  have MET_law_met : Met_law_met K mg := ⟨_, _, F34, g34, F34.kp, F34.bindsN fun _ _ _ _ _ _ us hl => match us, hl with | [_], _ => rfl⟩
  have e := hfa.symm.trans g36
  cases e
  have bl := FunD.bindsA (ps := ["script"]) F36 fun _ _ _ _ _ _ us hl => match us, hl with | [_], _ => rfl
  refine ⟨fd36, fun s v => bl s [v] rfl, hem, fun base _ _ TB => ?_⟩
  have TB__law_right := TB _ (show He.cT K ("_law_right", none) ∈ tf.map (He.cT K) from List.mem_map.mpr ⟨_, List.mem_cons_self, rfl⟩)
  have hT__law_right := HT _ (show (He.tabOf K (He.codeOf K ("_law_right", none)), ("_law_right.<locals>." ++ "<lambda>" : Str)) ∈ lamT K from List.mem_cons_self)
  have TB_law := TB _ (show He.cT K ("law", none) ∈ tf.map (He.cT K) from List.mem_map.mpr ⟨_, (List.mem_cons_of_mem _ List.mem_cons_self), rfl⟩)
  have hT_law := HT _ (show (He.tabOf K (He.codeOf K ("law", none)), ("law.<locals>." ++ "<lambda>" : Str)) ∈ lamT K from (List.mem_cons_of_mem _ List.mem_cons_self))
  have oe_InvalidNumber := oexB_ok x10
  have XI_InvalidNumber : ExI P w K mg base "InvalidNumber" (He.ga K "InvalidNumber") "given" := CallX.mkI exbIndexError oe_InvalidNumber F37 (ok_InvalidNumber___init__ F37 b_IndexError oe_InvalidNumber.g oe_InvalidNumber.t oe_InvalidNumber.v) mg_InvalidNumber (fun _ _ _ _ _ _ us hl => match us, hl with | [_, _], _ => rfl)
  have oe_Refused := oexB_ok x11
  have XI_Refused : ExI P w K mg base "Refused" (He.ga K "Refused") "reason" := CallX.mkI exbArithmeticError oe_Refused F38 (ok_Refused___init__ F38 b_ArithmeticError oe_Refused.g oe_Refused.t oe_Refused.v) mg_Refused (fun _ _ _ _ _ _ us hl => match us, hl with | [_, _], _ => rfl)
  have D__law_roll : CallD P w K mg base 1 "_law_roll" w__law_roll [] := CallD.of F1 (ok__law_roll F1 b_int) g1 (fun _ _ _ _ _ _ us hl => match us, hl with | [_, _], _ => rfl)
  have D__law_pick : CallD P w K mg base 2 "_law_pick" w__law_pick [] := CallD.of F2 (ok__law_pick F2 D__law_roll b_len) g2 (fun _ _ _ _ _ _ us hl => match us, hl with | [_, _], _ => rfl)
  have D_is_whole : CallD P w K mg base 1 "is_whole" w_is_whole [] := CallD.of F3 (ok_is_whole F3 b_isinstance b_bool b_int c_MOST_WHOLE) g3 (fun _ _ _ _ _ _ us hl => match us, hl with | [_], _ => rfl)
  have D_is_within_3 : CallD P w K mg base 2 "is_within" w_is_within [] := CallD.dfl F4 (ok_is_within F4 D_is_whole) g4 3 1 (List.cons_ne_nil _ _) rfl (fun _ _ _ _ _ _ _ us its h1 h2 => match us, its, h1, h2 with | [_, _, _], [_], _, _ => ⟨_, rfl, rfl⟩)
  have D_need_number_3 : CallD P w K mg base 3 "need_number" w_need_number [] := CallD.dfl F5 (ok_need_number F5 D_is_within_3) g5 3 2 (List.cons_ne_nil _ _) rfl (fun _ _ _ _ _ _ _ us its h1 h2 => match us, its, h1, h2 with | [_, _, _], [_, _], _, _ => ⟨_, rfl, rfl⟩)
  have MP_Reader_2 : MakeP P w K mg base 4 "Reader" (He.ga K "Reader") [] w_Reader___init__ := MakeP.of F6 (ok_Reader___init__ F6 D_need_number_3 c__MOST_READER c__MOST_PLACE cl_Reader nA_Reader_number nA_Reader_place nA_Reader_read_number nA_Reader_write_number nA_Reader_open_read nA_Reader_open_write nA_Reader_floor) (He.mkr_ok (c.fact 52 (f := .mkr "Reader") rfl)) mg_Reader (fun _ _ _ _ _ _ us hl => match us, hl with | [_, _, _], _ => rfl)
  have MF_Reader__twin : MethF P w K mg base 6 (He.ga K "Reader") "_twin" (He.ga K "Reader") (w_Reader__twin (He.ga K)) [] := MethF.of F14 (ok_Reader__twin F14 MP_Reader_2 cl_Reader nA_Reader_floor nA_Reader_open_write nA_Reader_open_read nA_Reader_write_number nA_Reader_read_number nA_Reader_place nA_Reader_number) (He.meth_ok (c.fact 53 (f := .meth "Reader" "_twin") rfl)) (fun _ _ _ _ _ _ us hl => match us, hl with | [_], _ => rfl)
  have D_is_value : CallD P w K mg base 3 "is_value" w_is_value [] := CallD.of F9 (ok_is_value F9 D_is_within_3 c_MOST_VALUE) g9 (fun _ _ _ _ _ _ us hl => match us, hl with | [_], _ => rfl)
  have D_is_value_or_none : CallD P w K mg base 4 "is_value_or_none" w_is_value_or_none [] := CallD.of F10 (ok_is_value_or_none F10 D_is_value) g10 (fun _ _ _ _ _ _ us hl => match us, hl with | [_], _ => rfl)
  have D_is_key : CallD P w K mg base 1 "is_key" w_is_key [] := CallD.of F8 (ok_is_key F8 b_len c_MOST_KEY b_isinstance b_str b_all c__LETTERS) g8 (fun _ _ _ _ _ _ us hl => match us, hl with | [_], _ => rfl)
  have D__is_setting : CallD P w K mg base 5 "_is_setting" w__is_setting [] := CallD.of F11 (ok__is_setting F11 b_len b_isinstance b_tuple D_is_value_or_none D_is_key) g11 (fun _ _ _ _ _ _ us hl => match us, hl with | [_], _ => rfl)
  have D_are_ascending : CallD P w K mg base 1 "are_ascending" w_are_ascending [] := CallD.of F7 (ok_are_ascending F7 b_all b_zip) g7 (fun _ _ _ _ _ _ us hl => match us, hl with | [_], _ => rfl)
  have D_is_deed : CallD P w K mg base 6 "is_deed" w_is_deed [] := CallD.of F12 (ok_is_deed F12 b_len c_MOST_SET b_isinstance b_tuple b_all D__is_setting D_are_ascending) g12 (fun _ _ _ _ _ _ us hl => match us, hl with | [_], _ => rfl)
  have D_need_deed : CallD P w K mg base 7 "need_deed" w_need_deed [] := CallD.of F13 (ok_need_deed F13 D_is_deed) g13 (fun _ _ _ _ _ _ us hl => match us, hl with | [_], _ => rfl)
  have ME_Reader_with_write_1 : MethD P w K mg base 8 (He.ga K "Reader") "with_write" (w_Reader_with_write (He.ga K)) [] := MethD.of F15 (ok_Reader_with_write F15 cl_Reader MF_Reader__twin nA_Reader_open_write nA_Reader_write_number D_need_deed) (He.meth_ok (c.fact 59 (f := .meth "Reader" "with_write") rfl)) (fun _ _ _ _ _ _ us hl => match us, hl with | [_, _], _ => rfl)
  have D__is_row_of_keys : CallD P w K mg base 2 "_is_row_of_keys" w__is_row_of_keys [] := CallD.of F17 (ok__is_row_of_keys F17 b_all D_is_key b_isinstance b_tuple D_are_ascending) g17 (fun _ _ _ _ _ _ us hl => match us, hl with | [_], _ => rfl)
  have D__size_of_leaf : CallD P w K mg base 3 "_size_of_leaf" w__size_of_leaf [] := CallD.of F18 (ok__size_of_leaf F18 b_len D_is_within_3 c_MOST_VALUE D_is_key D__is_row_of_keys) g18 (fun _ _ _ _ _ _ us hl => match us, hl with | [_], _ => rfl)
  have D_size_within : CallD P w K mg base 43 "size_within" (w_size_within 40) [] := CallD.of F19 (okr_size_within F16 (SelfC.of F16 g16 (fun _ _ _ _ _ _ us hl => match us, hl with | [_, _], _ => rfl)) F19 (SelfC.of F19 g19 (fun _ _ _ _ _ _ us hl => match us, hl with | [_, _], _ => rfl)) b_len KD_SIDES b_isinstance b_str b_tuple KIN_SIDES D__size_of_leaf 40).2 g19 (fun _ _ _ _ _ _ us hl => match us, hl with | [_, _], _ => rfl)
  have D_is_question : CallD P w K mg base 44 "is_question" w_is_question [] := CallD.of F20 (ok_is_question F20 D_size_within c_MAX_SIZE) g20 (fun _ _ _ _ _ _ us hl => match us, hl with | [_], _ => rfl)
  have D_need_question : CallD P w K mg base 45 "need_question" w_need_question [] := CallD.of F21 (ok_need_question F21 D_is_question) g21 (fun _ _ _ _ _ _ us hl => match us, hl with | [_], _ => rfl)
  have ME_Reader_with_read_2 : MethD P w K mg base 46 (He.ga K "Reader") "with_read" (w_Reader_with_read (He.ga K)) [] := MethD.of F22 (ok_Reader_with_read F22 cl_Reader MF_Reader__twin nA_Reader_open_read nA_Reader_read_number D_need_number_3 c_MOST_AGE D_need_question) (He.meth_ok (c.fact 60 (f := .meth "Reader" "with_read") rfl)) (fun _ _ _ _ _ _ us hl => match us, hl with | [_, _, _], _ => rfl)
  have DX_need_number_3 : CallX P w K mg base 3 "need_number" (wx_need_number (He.ga K)) [] := CallX.dfl F5 (okx_need_number F5 D_is_within_3 XI_InvalidNumber) g5 3 2 (List.cons_ne_nil _ _) rfl (fun _ _ _ _ _ _ _ us its h1 h2 => match us, its, h1, h2 with | [_, _, _], [_, _], _, _ => ⟨_, rfl, rfl⟩)
  have PX_Reader_2 : MakeX P w K mg base 4 "Reader" (He.ga K "Reader") [] (wx_Reader___init__ (He.ga K)) := MakeX.of F6 (okx_Reader___init__ F6 cl_Reader nA_Reader_number nA_Reader_place nA_Reader_read_number nA_Reader_write_number nA_Reader_open_read nA_Reader_open_write nA_Reader_floor c__MOST_PLACE DX_need_number_3 c__MOST_READER) (He.mkr_ok (c.fact 52 (f := .mkr "Reader") rfl)) mg_Reader (fun _ _ _ _ _ _ us hl => match us, hl with | [_, _, _], _ => rfl)
  have DX_need_question : CallX P w K mg base 45 "need_question" (wx_need_question (He.ga K)) [] := CallX.of F21 (okx_need_question F21 D_is_question EX_InvalidQuestion mg_InvalidQuestion) g21 (fun _ _ _ _ _ _ us hl => match us, hl with | [_], _ => rfl)
  have MX_Reader_with_read_2 : MethX P w K mg base 46 (He.ga K "Reader") "with_read" (wx_Reader_with_read (He.ga K)) [] := MethX.of F22 (okx_Reader_with_read F22 cl_Reader MF_Reader__twin nA_Reader_open_read nA_Reader_read_number XI_Refused c_MOST_AGE DX_need_number_3 DX_need_question) (He.meth_ok (c.fact 60 (f := .meth "Reader" "with_read") rfl)) (fun _ _ _ _ _ _ us hl => match us, hl with | [_, _, _], _ => rfl)
  have DX_need_deed : CallX P w K mg base 7 "need_deed" (wx_need_deed (He.ga K)) [] := CallX.of F13 (okx_need_deed F13 D_is_deed EX_InvalidDeed mg_InvalidDeed) g13 (fun _ _ _ _ _ _ us hl => match us, hl with | [_], _ => rfl)
  have MX_Reader_with_write_1 : MethX P w K mg base 8 (He.ga K "Reader") "with_write" (wx_Reader_with_write (He.ga K)) [] := MethX.of F15 (okx_Reader_with_write F15 cl_Reader MF_Reader__twin nA_Reader_open_write nA_Reader_write_number XI_Refused DX_need_deed) (He.meth_ok (c.fact 59 (f := .meth "Reader" "with_write") rfl)) (fun _ _ _ _ _ _ us hl => match us, hl with | [_, _], _ => rfl)
  have D_is_within_2 : CallD P w K mg base 2 "is_within" w_is_within [.int 999999999999999999999999999999999999999999999999999999999999] := CallD.dfl F4 (ok_is_within F4 D_is_whole) g4 2 0 (List.cons_ne_nil _ _) rfl (fun _ _ _ _ _ _ _ us its h1 h2 => match us, its, h1, h2 with | [_, _], [_], _, _ => ⟨_, rfl, rfl⟩)
  have D_is_instant : CallD P w K mg base 3 "is_instant" w_is_instant [] := CallD.of F26 (ok_is_instant F26 b_len b_isinstance b_tuple D_is_within_2) g26 (fun _ _ _ _ _ _ us hl => match us, hl with | [_], _ => rfl)
  have D_need_instant : CallD P w K mg base 4 "need_instant" w_need_instant [] := CallD.of F27 (ok_need_instant F27 D_is_instant) g27 (fun _ _ _ _ _ _ us hl => match us, hl with | [_], _ => rfl)
  have D_joined_floor : CallD P w K mg base 5 "joined_floor" w_joined_floor [] := CallD.of F28 (ok_joined_floor F28 D_need_instant b_max) g28 (fun _ _ _ _ _ _ us hl => match us, hl with | [_, _], _ => rfl)
  have DX_need_instant : CallX P w K mg base 4 "need_instant" (wx_need_instant (He.ga K)) [] := CallX.of F27 (okx_need_instant F27 D_is_instant EX_InvalidInstant mg_InvalidInstant) g27 (fun _ _ _ _ _ _ us hl => match us, hl with | [_], _ => rfl)
  have DX_need_number_2 : CallX P w K mg base 3 "need_number" (wx_need_number (He.ga K)) [.int 999999999999999999999999999999999999999999999999999999999999] := CallX.dfl F5 (okx_need_number F5 D_is_within_3 XI_InvalidNumber) g5 2 1 (List.cons_ne_nil _ _) rfl (fun _ _ _ _ _ _ _ us its h1 h2 => match us, its, h1, h2 with | [_, _], [_, _], _, _ => ⟨_, rfl, rfl⟩)
  have MX_Reader_answered_2 : MethX P w K mg base 7 (He.ga K "Reader") "answered" (wx_Reader_answered (He.ga K)) [] := MethX.of F29 (okx_Reader_answered F29 cl_Reader MF_Reader__twin nA_Reader_floor D_joined_floor nA_Reader_open_read DX_need_instant DX_need_number_2) (He.meth_ok (c.fact 68 (f := .meth "Reader" "answered") rfl)) (fun _ _ _ _ _ _ us hl => match us, hl with | [_, _, _], _ => rfl)
  have MX_Reader_heard_done_2 : MethX P w K mg base 7 (He.ga K "Reader") "heard_done" (wx_Reader_heard_done (He.ga K)) [] := MethX.of F30 (okx_Reader_heard_done F30 cl_Reader MF_Reader__twin nA_Reader_floor D_joined_floor nA_Reader_open_write DX_need_instant DX_need_number_2) (He.meth_ok (c.fact 69 (f := .meth "Reader" "heard_done") rfl)) (fun _ _ _ _ _ _ us hl => match us, hl with | [_, _, _], _ => rfl)
  have MX_Reader_dropped_0 : MethX P w K mg base 7 (He.ga K "Reader") "dropped" (wx_Reader_dropped (He.ga K)) [] := MethX.of F31 (okx_Reader_dropped F31 cl_Reader MF_Reader__twin nA_Reader_open_read XI_Refused) (He.meth_ok (c.fact 70 (f := .meth "Reader" "dropped") rfl)) (fun _ _ _ _ _ _ us hl => match us, hl with | [_], _ => rfl)
  have ME_Reader_dropped_0 : MethD P w K mg base 7 (He.ga K "Reader") "dropped" (w_Reader_dropped (He.ga K)) [] := MethD.of F31 (ok_Reader_dropped F31 cl_Reader MF_Reader__twin nA_Reader_open_read) (He.meth_ok (c.fact 70 (f := .meth "Reader" "dropped") rfl)) (fun _ _ _ _ _ _ us hl => match us, hl with | [_], _ => rfl)
  have ME_Reader_fallen_0 : MethD P w K mg base 7 (He.ga K "Reader") "fallen" (w_Reader_fallen (He.ga K)) [] := MethD.of F32 (ok_Reader_fallen F32 cl_Reader MF_Reader__twin nA_Reader_floor nA_Reader_open_read) (He.meth_ok (c.fact 71 (f := .meth "Reader" "fallen") rfl)) (fun _ _ _ _ _ _ us hl => match us, hl with | [_], _ => rfl)
  have DX__need_readers : CallX P w K mg base 2 "_need_readers" (wx__need_readers (He.ga K)) [] := CallX.of F23 (okx__need_readers F23 D_are_ascending cl_Reader nA_Reader_number EX_InvalidOperation mg_InvalidOperation b_all IS_Reader b_isinstance mg_Reader IX_Reader_tuple b_tuple) g23 (fun _ _ _ _ _ _ us hl => match us, hl with | [_], _ => rfl)
  have DX_open_reads : CallX P w K mg base 3 "open_reads" (wx_open_reads (He.ga K)) [] := CallX.of F24 (okx_open_reads F24 b_tuple cl_Reader nA_Reader_open_read nA_Reader_number DX__need_readers) g24 (fun _ _ _ _ _ _ us hl => match us, hl with | [_], _ => rfl)
  have DX_open_writes : CallX P w K mg base 3 "open_writes" (wx_open_writes (He.ga K)) [] := CallX.of F25 (okx_open_writes F25 b_tuple cl_Reader nA_Reader_open_write nA_Reader_number DX__need_readers) g25 (fun _ _ _ _ _ _ us hl => match us, hl with | [_], _ => rfl)
  have D__law_right : CallG P w K mg base 50 "_law_right" (w__law_right (He.ga K) (PySem.W.exmOne K)) [] := CallG.of F35 (ok__law_right F35 TB__law_right hT__law_right MET_law_met D__law_pick MP_Reader_2 cl_Reader ME_Reader_with_write_1 ME_Reader_with_read_2 PX_Reader_2 mg_Refused XF_Refused mg_InvalidNumber b_repr XF_InvalidNumber mg_InvalidQuestion mg_InvalidOperation mg_InvalidInstant mg_InvalidDeed MX_Reader_with_read_2 MX_Reader_with_write_1 MX_Reader_answered_2 MX_Reader_heard_done_2 MX_Reader_dropped_0 ME_Reader_dropped_0 ME_Reader_fallen_0 DX_open_reads DX_open_writes) g35 (fun _ _ _ _ _ _ us hl => match us, hl with | [_], _ => rfl)
  have D__law_dice : DiceD P w K mg base 1 "_law_dice" preDice := ⟨_, _, _, (ok__law_dice F33 b_abs b_int b_max b_len hp_dice), g33, F33.kp, F33.bindsN fun _ _ _ _ _ _ us hl => match us, hl with | [_, _], _ => rfl⟩
  exact (ok_law F36 TB_law hT_law MET_law_met b_range b_max b_min b_len D__law_right D__law_dice cl_Reader MX_Reader_with_read_2 MP_Reader_2 mg_Refused XF_Refused mg_InvalidNumber b_repr XF_InvalidNumber mg_InvalidQuestion mg_InvalidOperation mg_InvalidInstant mg_InvalidDeed MX_Reader_answered_2 DX_open_reads c_MOST_AGE)
theorem law_at {w : World} {K : PySem.W.Frag} {h : Heap} {mg : Str → Option Value} {f : Addr} (X : K.In h) (G : h.Ns mainGlobals mg) (hfa : mg ("law" : Str) = some (.ref f)) (c : He.SaysX fa fn tbs tf ex w h K) : L2.LawAtG PySem.Challenge.rw_wholemoment_k55_errors_of_readers w K L2.CX0 51 63 "script" mg f h := by
  have nd : ((lamT K).map Prod.fst).Nodup := by
    have q := c.more
    unfold ex at q
    simp only [Bool.and_eq_true, and_true] at q
    exact of_decide_eq_true (show tabsNd K = true from q.2.2.2.2.2.2.2.2.2.2.2.2.2)
  letI tb : Tabl := ⟨lamT K, fst_uniq nd⟩
  obtain ⟨fd, hb, hem, hF⟩ := facts (P := (PySem.Challenge.rw_wholemoment_k55_errors_of_readers).prog) (w := w) X G hfa c.t.d c.more (fun p hp => hp) (fun t ht => by
    obtain ⟨i, hi⟩ := List.mem_iff_getElem?.mp ht
    exact c.t.tab i hi)
  have key : ∀ p ∈ tf.map (He.cT K), ∃ d ∈ tf, He.cT K d = p := fun p hp => by
    obtain ⟨d, hd, e⟩ := List.mem_map.mp hp
    exact ⟨d, hd, e⟩
  refine ⟨fd, tf.map (He.cT K), spT K (w_law (He.ga K) (PySem.W.exmOne K)), fun p hp => ?_, fun p hp => ?_, fun p hp => ?_, hb, fun H a ns hl S => start_T (fun p hp => ?_) (fun p hp => ?_) S (My.r_law hem hl rfl), fun base h1 h2 h3 => (hF base h1 h2 h3)⟩
  · obtain ⟨d, hd, rfl⟩ := key p hp
    exact c.empty d hd
  · obtain ⟨d, hd, rfl⟩ := key p hp
    exact c.out d hd
  · obtain ⟨d, hd, rfl⟩ := key p hp
    exact PySem.W.codeHd_of_K X (c.hd d hd)
  · have hp' : p ∈ lamT K := hp
    simp only [lamT, List.mem_cons, List.not_mem_nil, or_false] at hp'
    simp only [tf, List.map_cons, List.map_nil, He.cT, List.mem_cons, List.not_mem_nil, or_false]
    rcases hp' with rfl | rfl <;> simp
  · obtain ⟨d, hd, rfl⟩ := key p hp
    have hd' := hd
    simp only [tf, List.mem_cons, List.not_mem_nil, or_false] at hd'
    rcases hd' with rfl | rfl
    · exact ⟨_, List.mem_cons_self⟩
    · exact ⟨_, (List.mem_cons_of_mem _ List.mem_cons_self)⟩
end My
open PySem PySem.W PySem.Calls PyProof.Rows
theorem PySem.Challenge.cw_wholemoment_k55_errors_of_readers_holds : PySem.Challenge.rw_wholemoment_k55_errors_of_readers.Holds := by
  w_on; o_law; k_head
  case hw => w_witness2
  case hc =>
    refine L2.walk_ofTG (l := PySem.Challenge.rw_wholemoment_k55_errors_of_readers) (n := 63) (k := 51) (x := "script") (CX := fun _ => L2.CX0) rfl (by decide) (by kernel_rfl) ⟨rfl, by decide, by decide⟩ ?F (fun _ _ _ _ _ z => z)
    intro w mg fa h Y G hmg0
    have KX := km_in_of Y
    have hmg : mg ("law" : PySem.Str) = some (.ref fa) := hmg0
    refine ⟨_, KX, My.law_at KX G hmg ⟨(by show He.obsT _ _ _ _ = He.valT _ _ _; kernel_rfl), (by kernel_rfl), List.all_eq_true.mp (by kernel_rfl), fun p hp => Option.isNone_iff_eq_none.mp ((List.all_eq_true (p := fun p => (List.lookup (He.cT _ p).2 _).isNone)).mp (by kernel_rfl) p hp), fun p hp => km_tabs_of Y _ (List.elem_iff.mp ((List.all_eq_true (p := fun p => List.elem (He.cT _ p).2 _)).mp (by kernel_rfl) p hp))⟩⟩

