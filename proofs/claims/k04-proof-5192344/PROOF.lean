import PyProof.Rows.All
import Wide.All
import OpenK.AllK
import Wide.FinOn
import HandS.ForMost
import HandS.Zip
import PyProof.ListMulRoad
import PyProof.FactsAll.tuple_2
import HandS.Base
import HandS.Call
import HandS.List
import HandS.TupMul
import HandS.TupAny
import HandS.Wide
import HandS.Strs
import KE.GoesEnum
import HandS.SetFor
import HandS.Defaults
import HandS.IsInst
import HandS.RaiseMore
import HandS.Lambda
import HandS.Text
import HandS.Head0
import HandS.Head1
import HandS.Head2
import HandS.HeadEnd
import HandS.HeadHook1
import HandS.HeadHook2
import HandS.MakeKwOnly
import HandS.OwnEq
import HandS.FStr
import HandS.Conv
import KE.KCallOwn
import HandS.Codes
import PyProof.InstNe
import HandS.Style
import HandS.Steps
import HandS.HeadHook3
import PyProof.ReprRoads
import KE.KUnpack
import HandS.DictComp
import HandS.ListItems
import HandS.CallSlots
import HandS.TryMany
import HandS.HeadHook4
import PyProof.ExcBaseAll.ValueError
import HandS.WideMore
import KE.SortData
import KE.DataMinMax
import HandS.SortKw
import HandS.SetKeys
import HandS.Deep
import HandS.Flow
import PyProof.IsRules
import HandS.EndTab
import HandS.HeadWalk
import HandS.Iter
import KE.KDictSum
import KE.KDictCopyH
import HandS.WordsDict
import KE.KEqDict
import HandS.ExcInit
import KE.KExcInit
import PyProof.ExcBaseAll.IndexError
import PyProof.ExcBaseAll.OverflowError
import PyProof.ExcBaseAll.ArithmeticError
import HandS.ExcField
import HandS.Set
import HandS.TupSets
import KE.KEqNest
import PyProof.NeKinds
import PySem.Challenge.RW_wholemoment_k04_whole_deeds_on_pairs
set_option Elab.async false
set_option linter.all false
set_option maxRecDepth 100000
set_option maxHeartbeats 0
/-! zip of any two of: a list, a tuple. An inner walk is told by what it does, the zip by its two inner walks. -/
namespace Zp
open PySem
/-- an inner walk: the iterator at it, over the thing at l; st h k: behind k items; its: the items -/
structure Wk (it l : Addr) (st : Heap → Nat → Prop) (its : Nat → Option Value) : Prop where
  nxt : ∀ {prog : Program} {w : World} {A : Around} {E : Value → Shared → Prop} {s : Shared} {k : Nat} {x : Value} {Q : Value → Shared → Prop}, st s.heap k → its k = some x → (∀ g, st g (k + 1) → Heap.SameBut it s.heap g → Q x { s with heap := g }) → wpAny (model prog w) A (Builtin.SmallTypes.nextOf (.ref it)) Q E s
  fin : ∀ {prog : Program} {w : World} {A : Around} {E : Value → Shared → Prop} {s : Shared} {k : Nat} {Q : Value → Shared → Prop}, A.handled = none → st s.heap k → its k = none → (∀ g e, Heap.ExtBut it s.heap g → (∃ o, g.get? e = some o ∧ o.cls = .type "StopIteration") → E (.ref e) { s with heap := g }) → wpAny (model prog w) A (Builtin.SmallTypes.nextOf (.ref it)) Q E s
  mov : ∀ {h g : Heap} {c : Addr} {k : Nat}, st h k → Heap.ExtBut c h g → it ≠ c → l ≠ c → st g k
  thr : ∀ {h : Heap} {k : Nat}, st h k → ∃ o, h.get? it = some o ∧ ∀ v, o.data ≠ .cell v
  at_ : ∀ {h g : Heap} {k : Nat}, st h k → (∀ o, h.get? it = some o → g.get? it = some o) → (∀ o, h.get? l = some o → g.get? l = some o) → st g k
section
variable {prog : Program} {w : World} {A : Around} {E : Value → Shared → Prop} {s : Shared}
variable {z I O p q a b : Addr} {sp sq : Heap → Nat → Prop} {ip iq : Nat → Option Value}
/-- the five objects of a walk, and what they stand upon -/
structure Five (z I O p q a b : Addr) : Prop where
  d : ZipApart z I O p q a b
end
/-! a list and a tuple -/
section
abbrev lt1 (h : Heap) (a : Addr) : Heap := h.push { cls := .type "list_iterator", data := .fields #[.ref a, .int 0 0] }
abbrev lt2 (h : Heap) (a b : Addr) : Heap := (lt1 h a).push { cls := .type "tuple_iterator", data := .fields #[.ref b, .int 0 0] }
abbrev lt3 (h : Heap) (a b : Addr) : Heap := (lt2 h a b).push { cls := .type "tuple", data := .seq #[.ref h.objs.size, .ref (lt1 h a).objs.size] }
abbrev lt4 (h : Heap) (a b : Addr) : Heap := (lt3 h a b).push { cls := .type "tuple", data := .seq #[.none, .none] }
abbrev lt5 (h : Heap) (a b : Addr) : Heap := (lt4 h a b).push { cls := .type "zip", data := .fields #[.none, .bool false, .bool false, .ref (lt2 h a b).objs.size, .ref (lt3 h a b).objs.size] }
variable {prog : Program} {w : World} {A : Around} {E : Value → Shared → Prop} {s : Shared}
end
end Zp
namespace Zp
open PySem PySem.Spec PyProof.Rows L2
/-- new pairs of a list's and a tuple's items -/
def ItM (K : PySem.W.Frag) (a b : Addr) : It where
  go i H := ∃ (xs ys : List V) (x y : V), SqL K H a xs ∧ SqT K H b ys ∧ xs[i]? = some x ∧ ys[i]? = some y
  yld i H v H' := ∃ t x y, v = .ref t ∧ H t = none ∧ H' = upd H t (.tup [x, y]) ∧ (∀ xs, SqL K H a xs → xs[i]? = some x) ∧ ∀ ys, SqT K H b ys → ys[i]? = some y
  stop i H := ∃ xs ys : List V, SqL K H a xs ∧ SqT K H b ys ∧ (xs.length ≤ i ∨ ys.length ≤ i)
def iZipM (K : PySem.W.Frag) (ta : TA) : TI := fun σ H R => ta σ H fun vs H1 => ∃ a b xs ys, vs = [.ref a, .ref b] ∧ SqL K H1 a xs ∧ SqT K H1 b ys ∧ R (ItM K a b) H1
end Zp


set_option Elab.async false
set_option linter.all false
set_option maxRecDepth 100000
set_option maxHeartbeats 0
namespace Tr
open PySem PySem.Spec PyProof.Rows L2
theorem tuple_mul1 (l : Addr) (items : Array Value) (n : Nat) (dd : Option Addr) (sl : Array (Option Value)) (x : Int) (u : Tok) (c0 : (decide (x < -(2 ^ 63)) || decide (x ≥ 2 ^ 63)) = false) (c1 : (items.isEmpty || x == 1) = true) :
    Meets (Builtin.«tuple.__mul__» ⟨[.ref l, .int x u], []⟩) (fun _ R s => s.heap.get? l = some { cls := .type "tuple", dict := dd, data := .seq items n, slots := sl } ∧
      R (.ok (.ret (Value.ref l))) s) :=
  .of_wp fun prog w A R s h => by
    obtain ⟨hp, g, d, tk, os⟩ := s
    obtain ⟨hl, h⟩ := h
    have f1 := AutoSeq1.idx_int
    wp_walk using wpAny_loadPart' hl
    repeat (first
      | (refine wpAny_ite_false (decide_eq_false (by rw [c0]; exact Bool.false_ne_true)) ?_; wp_walk using wpAny_loadPart' hl)
      | (refine wpAny_ite_true (decide_eq_true c1) ?_; wp_walk using wpAny_loadPart' hl))
    exact ⟨_, rfl, h⟩
/-- t * 1 is t -/
def rRep1 (K : PySem.W.Frag) : R2 := fun x y H Q => ∃ l xs, x = .ref l ∧ y = .int 1 ∧ SqT K H l xs ∧ Q (.ref l) H
theorem op_rep1 {X : Cx} : OpR X (binaryOp .Mult) (rRep1 X.K) := by
  intro pins s σ H x y v u Q I rx ry h
  obtain ⟨l, xs, rfl, rfl, hT, q⟩ := h
  cases rx
  obtain ⟨t, rfl⟩ := ry
  obtain ⟨its, r, ⟨⟨cls, dd, data, sl⟩, ho, hc, n, hd⟩, hs⟩ := I.tuple hT
  simp only at hc hd
  subst hc hd
  have c1 : (its.toArray.isEmpty || (1 : Int) == 1) = true := by rw [Bool.or_eq_true]; exact .inr rfl
  refine wpAny_binaryOp_repeat_ref (T := "tuple") (U := "int") (by decide) ⟨_, ho, rfl⟩ (fun s' => typeIs_int s' 1 t) noFill_tuple_mul F.fills_int_mul F.slot_int_rmul repeat_tuple F.slot_int_index.lookup
    (call_meets F.slot_int_rmul (typeIs_int s 1 t) F.entry_int_rmul (F.args_int_rmul_2 _ _) (int_rmul_tuple 1 t l its.toArray n dd sl)
      ⟨ho, rfl, ⟨_, ho, rfl⟩, call_meets F.slot_tuple_mul ⟨_, ho, rfl⟩ F.entry_tuple_mul (F.args_tuple_mul_2 _ _) (tuple_mul1 l its.toArray n dd sl 1 t (by decide) c1) ⟨ho, ?_⟩⟩)
  exact ⟨.ref l, H, I, rfl, q⟩
end Tr


set_option Elab.async false
set_option linter.all false
set_option maxRecDepth 100000
set_option maxHeartbeats 0
/-! max(t), min(t) of a tuple of whole numbers -/
namespace Mx
open PySem PyProof.Rows
section
variable {prog : Program} {w : World} {A : Around} {E : Value → Shared → Prop} {s : Shared} {l : Addr} {xs : Array (Int × Tok)}
abbrev grown (s : Shared) (l : Addr) : Heap := s.heap.push { cls := .type "tuple_iterator", data := .fields #[.ref l, .int 0 0] }
theorem below (hl : s.heap.IsTuple l (intItems xs)) : l < s.heap.objs.size := by
  obtain ⟨_, e, _⟩ := hl
  exact Heap.lt_size e
theorem steps (hl : s.heap.IsTuple l (intItems xs)) : ∀ b ∈ [s.heap.objs.size, l], b < (grown s l).objs.size := by
  intro b hb
  show b < (s.heap.push _).objs.size
  rw [Heap.size_push]
  rcases List.mem_cons.mp hb with e | hb
  · rw [e]
    exact Nat.lt_succ_self _
  · rw [List.mem_singleton.mp hb]
    exact Nat.lt_succ_of_lt (below hl)
theorem stays {h' : Heap} (hk : ∀ b o, b ∉ [s.heap.objs.size] → (grown s l).get? b = some o → h'.get? b = some o) : ∀ b o, s.heap.get? b = some o → h'.get? b = some o := fun b o e => by
  refine hk b o (fun hm => ?_) (Heap.get?_push_of_some _ e)
  have hb : b = s.heap.objs.size := List.mem_singleton.mp hm
  exact absurd (hb ▸ Heap.lt_size e) (Nat.lt_irrefl _)
end
end Mx
namespace Tr
open PySem PySem.Spec PyProof.Rows L2
section
variable {X : Cx}
/-- of a tuple -/
def rMaxT (K : PySem.W.Frag) : List V → Hp → VK → Prop := fun vs H Q => ∃ (p : Addr) (ns : List Int), vs = [.ref p] ∧ SqT K H p (ns.map V.int) ∧ 0 < ns.length ∧ ∀ m, m ∈ ns → (∀ y, y ∈ ns → y ≤ m) → Q (.int m) H
def rMinT (K : PySem.W.Frag) : List V → Hp → VK → Prop := fun vs H Q => ∃ (p : Addr) (ns : List Int), vs = [.ref p] ∧ SqT K H p (ns.map V.int) ∧ 0 < ns.length ∧ ∀ m, m ∈ ns → (∀ y, y ∈ ns → m ≤ y) → Q (.int m) H
end
end Tr


set_option Elab.async false
set_option linter.all false
set_option maxRecDepth 100000
set_option maxHeartbeats 0
/-! enumerate of a tuple. -/
namespace En
open PySem
theorem new_tup (a : Addr) (ys : Array Value) :
    Meets (Builtin.«enumerate.__new__» ⟨[.type "enumerate", .ref a], []⟩) (fun _ R s => s.heap.IsTuple a ys ∧
      R (.ok (.ret (.ref (s.heap.push { cls := .type "tuple_iterator", data := .fields #[.ref a, .int 0 0] }).objs.size)))
        { s with heap := (s.heap.push { cls := .type "tuple_iterator", data := .fields #[.ref a, .int 0 0] }).push { cls := .type "enumerate", data := .fields #[.none, .bool false, .ref s.heap.objs.size, rawInt 0, .none, .none] } }) :=
  .of_wp fun prog w A R s h => by
    obtain ⟨hp, g, d, tk, os⟩ := s; obtain ⟨hl, h⟩ := h
    have hsub := sub_enumerate
    have hT : Heap.IsTuple (Shared.heap ⟨hp, g, d, tk, os⟩) a ys := hl
    wp_walk using wpAny_pyIter_tuple hT
    refine wpAny_stack_any fun st => wpAny_pure ?_
    split
    · rename_i c _ _ _ _ _
      cases (c == Value.type "enumerate")
      · wp_walk using wpAny_pyIter_tuple hT
        exact ⟨_, rfl, h⟩
      · wp_walk using wpAny_pyIter_tuple hT
        exact ⟨_, rfl, h⟩
    · wp_walk using wpAny_pyIter_tuple hT
      exact ⟨_, rfl, h⟩
section
variable {prog : Program} {w : World} {A : Around} {E : Value → Shared → Prop} {s : Shared}
theorem call_tup {l : Addr} {items : Array Value} {Q : Value → Shared → Prop} (hL : s.heap.IsTuple l items)
    (h : ∀ h', IsEnum h' (s.heap.objs.size + 1) s.heap.objs.size 0 .none → h'.IsTupleIter s.heap.objs.size l 0 → h'.objs.size = s.heap.objs.size + 2 →
      (∀ b o, s.heap.get? b = some o → h'.get? b = some o) → Q (.ref (s.heap.objs.size + 1)) { s with heap := h' }) :
    wpAny (model prog w) A (call (.type "enumerate") [.ref l]) Q E s := by
  refine callType_new F.called_enumerate (by decide) (F.typeCall_enumerate_1 _) (F.newCall_enumerate_1 _) (fun obj => F.args_object_init_2 obj _) F.entry_enumerate_new
    (new_tup l items) ⟨hL, ?_⟩
  have hz : (s.heap.push { cls := .type "tuple_iterator", data := .fields #[.ref l, .int 0 0] }).objs.size = s.heap.objs.size + 1 := Heap.size_push ..
  show _ ∧ _
  rw [hz]
  have he : IsEnum ((s.heap.push { cls := .type "tuple_iterator", data := .fields #[.ref l, .int 0 0] }).push
      { cls := .type "enumerate", data := .fields #[.none, .bool false, .ref s.heap.objs.size, rawInt 0, .none, .none] }) (s.heap.objs.size + 1) s.heap.objs.size 0 .none := by
    have := Heap.get?_push_size (s.heap.push { cls := .type "tuple_iterator", data := .fields #[.ref l, .int 0 0] })
      (o := { cls := .type "enumerate", data := .fields #[.none, .bool false, .ref s.heap.objs.size, rawInt 0, .none, .none] }) rfl
    rw [hz] at this; exact this
  refine ⟨⟨_, he, rfl⟩, h _ he ⟨_, Heap.get?_push_of_some _ (Heap.get?_push_size _ rfl), rfl, rfl⟩ (by rw [Heap.size_push, hz]) fun b o x => Heap.get?_push_of_some _ (Heap.get?_push_of_some _ x)⟩
theorem enum_endT {e it l : Addr} {n : Nat} {items : Array Value} {i : Int} {old : Value} {Q : Option Value → Shared → Prop} (hh : A.handled = none)
    (he : IsEnum s.heap e it i old) (hit : s.heap.IsTupleIter it l n) (hl : s.heap.IsTuple l items) (hn : items.size ≤ n)
    (hQ : ∀ h', Heap.ExtBut it s.heap h' → Q none { s with heap := h' }) : wpAny (model prog w) A (pyNext (.ref e)) Q E s := by
  have hT : s.TypeIs (.ref e) "enumerate" := ⟨_, he, rfl⟩
  unfold pyNext
  refine wpAny_bind (wpAny_attempt (wpAny_callSpecial?_slot (name := Str.ofString "__next__") hT F.slot_enumerate_next
    (wpAny_call_entry F.slot_enumerate_next hT F.entry_enumerate_next ?_ (F.args_enumerate_next_1 _))))
  show wpAny _ _ (field (.ref e) 2 >>= _) _ _ _
  refine wpAny_bind (wpAny_field he rfl (x := .ref it) rfl ?_)
  refine wpAny_bind (wpAny_nextOf_tuple_end (show A.in1.handled = none from hh) hit hl (by simp [hn]) fun h' x he' hx' => ?_)
  obtain ⟨o, ho, hc⟩ := hx'
  refine wpAny_bind (wpAny_isInstance (T := "StopIteration") (b := true) ⟨o, ho, hc⟩ isSubtype_stop ?_)
  exact wpAny_pure (hQ _ he')
end
end En
namespace En
open PySem PySem.Spec PyProof.Rows L2
/-- the tuple at a, each item in a new pair -/
def ItT (K : PySem.W.Frag) (a : Addr) : It :=
  ⟨fun i H => ∃ (xs : List V) (x : V), SqT K H a xs ∧ xs[i]? = some x, fun i H v H' => ∃ T x, v = .ref T ∧ H T = none ∧ H' = upd H T (.tup [.int (i : Nat), x]) ∧ ∀ xs, SqT K H a xs → xs[i]? = some x, fun i H => ∃ xs : List V, SqT K H a xs ∧ xs.length ≤ i⟩
theorem turnT {P : Program} {w : World} {K : PySem.W.Frag} {elts : List Expr} {kk : Nat} {tpos : Pos} (a e it : Addr) :
    Turn P w K (.Tuple elts kk tpos) (ItT K a) [e, it] e (fun i h => (∃ old, IsEnum h e it ((i : Nat) : Int) old) ∧ h.IsTupleIter it a i ∧ e ≠ it ∧ e ≠ a ∧ a ≠ it) where
  mem := by simp
  obj := fun i h st b hb => by
    obtain ⟨⟨old, he⟩, ⟨o, ho, hc, hd⟩, _⟩ := st
    have e' : b = e ∨ b = it := by simpa using hb
    rcases e' with z | z
    · rw [z]; exact ⟨_, he, fun v q => nomatch q⟩
    · rw [z]; exact ⟨o, ho, fun v q => by rw [hd] at q; cases q⟩
  keep := fun i h h' st k => let ⟨⟨old, he⟩, hi, hne⟩ := st; ⟨⟨old, k e (by simp) _ he⟩, hi.at fun o q => k it (by simp) o q, hne⟩
  item := by
    intro X hP hw hK hc i pins s σ H E I hf st hg
    subst hP hw hK
    obtain ⟨⟨old, he⟩, hit, hne, hea, hai⟩ := st
    obtain ⟨xs, x, hq, hx⟩ := hg
    obtain ⟨its, rv, p, hz⟩ := I.tuple hq
    obtain ⟨u, hu, ru⟩ := rv.get hx
    have hel : e < s.heap.objs.size := Heap.lt_size he
    have hil : it < s.heap.objs.size := by obtain ⟨_, q, _⟩ := hit; exact Heap.lt_size q
    have hi : i < its.toArray.size := by
      rw [List.size_toArray]
      exact (List.getElem?_eq_some_iff.mp hu).1
    refine wpAny_pyNext_enum_itemC (Draws.tuple (A := X.A.in1) (I.ok.hd hc) it a hai its.toArray) he ⟨hit, p⟩ hi hne (by simp [hne, hea]) fun x' h' tk hP ho st' hT hsz hk => ?_
    have ex : x' = u := by
      have hP' : its.toArray[i]? = some x' := hP
      rw [List.getElem?_toArray, hu] at hP'
      exact (Option.some.inj hP').symm
    subst ex
    refine ⟨_, rfl, wpAny_letOwnedTupleGo_enum (s := { s with heap := h', toks := tk + 1 }) ho fun h'' he' sb => ?_⟩
    have hT2 : h''.get? s.heap.objs.size = some { cls := .type "tuple", data := .seq #[.int i tk, x'] } := (sb.2 _ (Nat.ne_of_gt hel)).trans hT
    have new : ObjOk X.prog X.w (upd H s.heap.objs.size (.tup [.int (i : Nat), x])) h'' s.heap.objs.size (.tup [.int (i : Nat), x]) :=
      ⟨by show 2 ≤ sizeLine; decide, [.int i tk, x'], .cons ⟨_, rfl⟩ (.cons ru .nil), ⟨_, hT2, rfl, _, rfl⟩⟩
    have I1 : Inv X pins σ (upd H s.heap.objs.size (.tup [.int (i : Nat), x])) { s with heap := h'', toks := tk + 1 } :=
      I.turnedNew (ch := [e, it]) (fun b ob hb q => (sb.2 b (fun z => hb (by simp [z]))).trans (hk b ob (fun z => hb (by simp [z])) (fun z => hb (by simp [z])) q)) hf (Nat.le_refl _) new
    refine ⟨.ref s.heap.objs.size, _, I1, rfl, ⟨_, x, rfl, I.hok.fresh (Nat.le_refl _), rfl, fun ys hy => by rw [I.tuple_inj hy hq]; exact hx⟩, ⟨⟨x', ?_⟩, st'.1.at fun o q => (sb.2 it (Ne.symm hne)).trans q, hne, hea, hai⟩, fun b hb => ?_⟩
    · have e1 : ((i + 1 : Nat) : Int) = (i : Int) + 1 := by omega
      rw [e1]; exact he'
    · have hb' : b < s.heap.objs.size := by
        have e' : b = e ∨ b = it := by simpa using hb
        rcases e' with z | z
        · rw [z]; exact hel
        · rw [z]; exact hil
      rw [upd_ne (Nat.ne_of_lt hb')]
      exact (hf b hb).1
  done := by
    intro X hP hw hK hc i pins s σ H E I hf st hg
    subst hP hw hK
    obtain ⟨⟨old, he⟩, hit, hne, hea, hai⟩ := st
    obtain ⟨xs, hq, hx⟩ := hg
    obtain ⟨its, rv, p, hz⟩ := I.tuple hq
    obtain ⟨f0, f1, f2, f3, f4, f5⟩ := hf it (by simp)
    have hl := rv.length
    have hi : its.toArray.size ≤ i := by rw [List.size_toArray]; omega
    exact enum_endT (I.ok.hd hc) he hit p hi fun h' eb => ⟨rfl, I.turned (t' := s.toks) (fun b o hb q => eb b o hb q) f0 f1 f3 f4 f5⟩
  self := fun A i s Q E st h => let ⟨⟨_, he⟩, _⟩ := st; wpAny_pyIter_enum he h
theorem enum_t {X : Cx} {tpos : Pos} {elts : List Expr} {kk : Nat} {pins : List (Addr × Obj)} {σ : L2.St} {H1 : Hp} {s1 : Shared} {R : It → Hp → Prop} {a : Addr} {xs : List V} (I1 : Inv X pins σ H1 s1) (hq : SqT X.K H1 a xs) (q : R (ItT X.K a) H1) :
    wpAny (model X.prog X.w) X.A (call (.type "enumerate") [.ref a]) (fun v s' => wpAny (model X.prog X.w) X.A (pyIter v) (PIE X pins σ (.Tuple elts kk tpos) R) X.xe s') X.xe s1 := by
  obtain ⟨its, rv, p', hz⟩ := I1.tuple hq
  have la : a < s1.heap.objs.size := by obtain ⟨_, q, _⟩ := id p'; exact Heap.lt_size q
  refine call_tup (show s1.heap.IsTuple a its.toArray from p') fun h' he hit hsz hk => wpAny_pyIter_enum he ?_
  have I2 : Inv X pins σ H1 { s1 with heap := h' } := I1.kept (t' := s1.toks) hk
  refine ⟨s1.heap.objs.size + 1, [s1.heap.objs.size + 1, s1.heap.objs.size], _, _, H1, rfl, I2, turnT a (s1.heap.objs.size + 1) s1.heap.objs.size, ⟨⟨.none, he⟩, hit, Nat.succ_ne_self _, Nat.ne_of_gt (Nat.lt_succ_of_lt la), Nat.ne_of_lt la⟩, fun b hb => ?_, q⟩
  have e' : b = s1.heap.objs.size + 1 ∨ b = s1.heap.objs.size := by simpa using hb
  have hle : s1.heap.objs.size ≤ b := by
    rcases e' with z | z
    · rw [z]; exact Nat.le_add_right _ _
    · rw [z]; exact Nat.le_refl _
  exact I1.fpOk hle (I1.hok.fresh hle)
theorem enum_l {X : Cx} {tpos : Pos} {elts : List Expr} {kk : Nat} {pins : List (Addr × Obj)} {σ : L2.St} {H1 : Hp} {s1 : Shared} {R : It → Hp → Prop} {a : Addr} {xs : List V} (I1 : Inv X pins σ H1 s1) (hq : SqL X.K H1 a xs) (q : R (Ite X.K a) H1) :
    wpAny (model X.prog X.w) X.A (call (.type "enumerate") [.ref a]) (fun v s' => wpAny (model X.prog X.w) X.A (pyIter v) (PIE X pins σ (.Tuple elts kk tpos) R) X.xe s') X.xe s1 := by
  obtain ⟨its, rv, p', hz⟩ := I1.list hq
  refine call_enumerate_list p'.isList fun h' he hit hsz hk => wpAny_pyIter_enum he ?_
  have I2 : Inv X pins σ H1 { s1 with heap := h' } := I1.kept (t' := s1.toks) hk
  refine ⟨s1.heap.objs.size + 1, [s1.heap.objs.size + 1, s1.heap.objs.size], _, _, H1, rfl, I2, turn_enum a (s1.heap.objs.size + 1) s1.heap.objs.size, ⟨⟨.none, he⟩, hit, Nat.succ_ne_self _⟩, fun b hb => ?_, q⟩
  have e' : b = s1.heap.objs.size + 1 ∨ b = s1.heap.objs.size := by simpa using hb
  have hle : s1.heap.objs.size ≤ b := by
    rcases e' with z | z
    · rw [z]; exact Nat.le_add_right _ _
    · rw [z]; exact Nat.le_refl _
  exact I1.fpOk hle (I1.hok.fresh hle)
end En


set_option Elab.async false
set_option linter.all false
set_option maxRecDepth 100000
set_option maxHeartbeats 0
/-! sorted(set(xs)), xs a list of whole numbers -/
namespace SL
open PySem PySem.Spec PyProof.Rows L2
section
variable {P : Program} {w : World} {A : Around} {E : Value → Shared → Prop} {s : Shared}
/-- a type that is called: made, then set up -/
theorem call_two {T newI iniI : String} {vs : List Value} {Q M : Value → Shared → Prop} (tc : TypeCalled T newI iniI) (okA : checkTypeCall T ⟨vs, []⟩ = pure ())
    (mk : codeAny (model P w) A.in1 (.call (.builtin newI) ⟨.type T :: vs, []⟩) (wants M E) s)
    (up : ∀ ob t, M ob t → t.TypeIs ob T ∧ codeAny (model P w) A.in1 (.call (.builtin iniI) ⟨ob :: vs, []⟩) (wants (fun r u => r = .none ∧ Q ob u) E) t) :
    wpAny (model P w) A (call (.type T) vs) Q E s := by
  have ⟨_, _, m0⟩ := tc.mro
  have m1 := tc.made
  have m2 := tc.sub
  have m3 := tc.notType
  have m4 := tc.canCreate
  apply wpAny_call
  apply codeAny_of_tree
  show wpAny _ _ (callAny (.type T) _) _ _ _
  apply wpAny_pure
  refine ⟨Code.quiet_builtin _ (by decide +kernel), ?_⟩
  apply codeAny_builtin PySem.F.entry_type_call
  rw [Around.under_plain (weight_type_call_type T vs []) rfl]
  repeat' (first | assumption | wp_step)
  refine codeAny_mono mk ?_
  intro r t hr
  match r, hr with
  | .ok (.ret ob), hr =>
    obtain ⟨hT, go⟩ := up ob t hr
    have n1 := tc.init.lookup
    have n2 := tc.init.bind ob
    repeat' (first | assumption | wp_step)
    refine codeAny_mono go ?_
    intro r2 u hu
    match r2, hu with
    | .ok (.ret v), hu =>
      obtain ⟨rfl, q⟩ := hu
      repeat' (first | assumption | wp_step)
    | .error e, hu => exact hu
  | .error e, hr => exact hr
/-- an empty set, as set(..) makes it -/
abbrev set0 (w : World) : Obj := { cls := .type "set", dict := none, data := .set #[] 0 (.fresh 0 0 (!w.params.followText "set-order")) }
end
/-- sorted(set(xs)) -/
def tSrt (K : PySem.W.Frag) (ta : TE) : TE := fun σ H Q => ta σ H fun x H1 => ∃ (l : Addr) (ns : List Int), x = .ref l ∧ SqL K H1 l (ns.map V.int) ∧ ns.length < 64 ∧ ∀ (ms : List Int) (p : Addr), ms.Pairwise (· < ·) → (∀ k : Int, k ∈ ms ↔ k ∈ ns) → H1 p = none → Q (.ref p) (upd H1 p (.lst (ms.map V.int)))
end SL


set_option Elab.async false
set_option linter.all false
set_option maxRecDepth 100000
set_option maxHeartbeats 0
/-! Trees: the values of a program's own run as plain data; what stands in the heap is told once. -/
namespace Tr
open PySem PySem.Spec PyProof.Rows L2

/-! ### 1. values as trees -/
inductive T where
  | non | bl (b : Bool) | int (i : Int) | str (x : Str) | tup (ts : List T) | lst (ts : List T) | scr (ts : List T)
  | dct (ks : List Key) (ts : List T) | ins (C : Addr) (ns : List Str) (ts : List T) | ty (n : String)
  | fn (a : Addr) | exc (a d : Addr) (f : Str) (t : T)

/-- an object of the def's own -/
inductive OwnT where
  | lst (ts : List T) | dct (ks : List Key) (ts : List T)
/-- what a slot, an expression holds: a tree, a list of the def's own, the dice -/
inductive Sl where
  | any | val (t : T) | ob (l : Addr) (o : OwnT) | dice
abbrev Sl.own (l : Addr) (ts : List T) : Sl := .ob l (.lst ts)
abbrev Sl.ownd (l : Addr) (ks : List Key) (ts : List T) : Sl := .ob l (.dct ks ts)

abbrev Avoid := List Addr
/-- what A does not name stays -/
def Ext (A : Avoid) (H H' : Hp) : Prop := ∀ a o, a ∉ A → H a = some o → H' a = some o
theorem Ext.refl {A : Avoid} (H : Hp) : Ext A H H := fun _ _ _ h => h
theorem Ext.trans {A : Avoid} {H H1 H2 : Hp} (a : Ext A H H1) (b : Ext A H1 H2) : Ext A H H2 := fun x o n h => b x o n (a x o n h)
theorem Ext.mono {A B : Avoid} {H H' : Hp} (h : ∀ a ∈ A, a ∈ B) (e : Ext A H H') : Ext B H H' := fun a o n q => e a o (fun z => n (h a z)) q
theorem Ext.new {A : Avoid} {H : Hp} {p : Addr} {o : HO} (h : H p = none) : Ext A H (upd H p o) := fun a u _ e => by
  rw [upd_ne (ne_of_none e h)]
  exact e
theorem Ext.mut {A : Avoid} {H : Hp} {p : Addr} {o : HO} (h : p ∈ A) : Ext A H (upd H p o) := fun a u n e => by
  rw [upd_ne (fun z => n (by rw [z]; exact h))]
  exact e

mutual
inductive Rep (K : PySem.W.Frag) (A : Avoid) (H : Hp) : V → T → Prop
  | non : Rep K A H .non .non
  | bl (b : Bool) : Rep K A H (.bl b) (.bl b)
  | int (i : Int) : Rep K A H (.int i) (.int i)
  | str (x : Str) : Rep K A H (.str x) (.str x)
  | ty (n : String) : Rep K A H (.ty n) (.ty n)
  | tup {a : Addr} {vs : List V} {ts : List T} : a ∉ A → H a = some (.tup vs) → RepAll K A H vs ts → Rep K A H (.ref a) (.tup ts)
  | tupK {a : Addr} {vs : List V} {ts : List T} : (∃ (o : Obj) (its : Array Value) (n : Nat), K.lookup a = some o ∧ o.cls = .type "tuple" ∧ o.data = .seq its n ∧ its.size ≤ sizeLine ∧ Vals vs its.toList) → RepAll K A H vs ts → Rep K A H (.ref a) (.tup ts)
  | lst {a : Addr} {vs : List V} {ts : List T} : a ∉ A → H a = some (.lst vs) → RepAll K A H vs ts → Rep K A H (.ref a) (.lst ts)
  | scr {a : Addr} {o : Obj} {vs : List V} {ts : List T} : a ∉ A → H a = some (.frz o (.lst vs)) → RepAll K A H vs ts → Rep K A H (.ref a) (.scr ts)
  | scrK {a : Addr} {vs : List V} {ts : List T} : (∃ (o : Obj) (its : Array Value) (n : Nat), K.lookup a = some o ∧ o.cls = .type "list" ∧ o.dict = none ∧ o.data = .seq its n ∧ its.size ≤ sizeLine ∧ Vals vs its.toList) → RepAll K A H vs ts → Rep K A H (.ref a) (.scr ts)
  | dct {a : Addr} {ks : List Key} {vs : List V} {ts : List T} : a ∉ A → (H a = some (.dK (ks.zip vs)) ∨ ∃ o, H a = some (.frz o (.dK (ks.zip vs)))) → ks.length = vs.length → RepAll K A H vs ts → Rep K A H (.ref a) (.dct ks ts)
  | ins {a dx C : Addr} {ns : List Str} {vs : List V} {ts : List T} : a ∉ A → dx ∉ A → H a = some (.ins C dx (ns.zip vs)) → H dx = some (.own a) → ns.length = vs.length → RepAll K A H vs ts → Rep K A H (.ref a) (.ins C ns ts)
  | fn (a : Addr) : Rep K A H (.ref a) (.fn a)
  | exc {a d : Addr} {f : Str} {v : V} {t : T} : d ∉ A → H d = some (.xd [(f, v)]) → Rep K A H v t → Rep K A H (.ref a) (.exc a d f t)
inductive RepAll (K : PySem.W.Frag) (A : Avoid) (H : Hp) : List V → List T → Prop
  | nil : RepAll K A H [] []
  | cons {v : V} {vs : List V} {t : T} {ts : List T} : Rep K A H v t → RepAll K A H vs ts → RepAll K A H (v :: vs) (t :: ts)
end
section
variable {K : PySem.W.Frag} {A B : Avoid} {H H' : Hp}
mutual
/-- from one heap to a later one, from one list of what is avoided to another -/
theorem Rep.to (e : ∀ a o, a ∉ A → H a = some o → a ∉ B ∧ H' a = some o) : ∀ {v : V} {t : T}, Rep K A H v t → Rep K B H' v t
  | _, _, .non => .non
  | _, _, .bl b => .bl b
  | _, _, .int i => .int i
  | _, _, .str x => .str x
  | _, _, .ty n => .ty n
  | _, _, .tup n h r => .tup (e _ _ n h).1 (e _ _ n h).2 (RepAll.to e r)
  | _, _, .tupK h r => .tupK h (RepAll.to e r)
  | _, _, .lst n h r => .lst (e _ _ n h).1 (e _ _ n h).2 (RepAll.to e r)
  | _, _, .scr n h r => .scr (e _ _ n h).1 (e _ _ n h).2 (RepAll.to e r)
  | _, _, .scrK h r => .scrK h (RepAll.to e r)
  | _, _, .dct n h l r => .dct (h.elim (fun h => (e _ _ n h).1) fun ⟨_, h⟩ => (e _ _ n h).1) (h.elim (fun h => .inl (e _ _ n h).2) fun ⟨o, h⟩ => .inr ⟨o, (e _ _ n h).2⟩) l (RepAll.to e r)
  | _, _, .ins n m h k l r => .ins (e _ _ n h).1 (e _ _ m k).1 (e _ _ n h).2 (e _ _ m k).2 l (RepAll.to e r)
  | _, _, .fn a => .fn a
  | _, _, .exc n h r => .exc (e _ _ n h).1 (e _ _ n h).2 (Rep.to e r)
theorem RepAll.to (e : ∀ a o, a ∉ A → H a = some o → a ∉ B ∧ H' a = some o) : ∀ {vs : List V} {ts : List T}, RepAll K A H vs ts → RepAll K B H' vs ts
  | _, _, .nil => .nil
  | _, _, .cons h r => .cons (Rep.to e h) (RepAll.to e r)
end
theorem Rep.mono {v : V} {t : T} (e : Ext A H H') (h : Rep K A H v t) : Rep K A H' v t := h.to fun a o n q => ⟨n, e a o n q⟩
theorem RepAll.mono {v : List V} {t : List T} (e : Ext A H H') (h : RepAll K A H v t) : RepAll K A H' v t := h.to fun a o n q => ⟨n, e a o n q⟩
theorem Rep.sub {v : V} {t : T} (s : ∀ a ∈ B, a ∈ A) (h : Rep K A H v t) : Rep K B H v t := h.to fun a o n q => ⟨fun z => n (s a z), q⟩
theorem RepAll.sub {v : List V} {t : List T} (s : ∀ a ∈ B, a ∈ A) (h : RepAll K A H v t) : RepAll K B H v t := h.to fun a o n q => ⟨fun z => n (s a z), q⟩
theorem Rep.more {v : V} {t : T} {p : Addr} (hp : H p = none) (h : Rep K A H v t) : Rep K (p :: A) H v t := h.to fun a o n q => ⟨fun z => by
  rcases List.mem_cons.mp z with z | z
  · subst z; rw [hp] at q; cases q
  · exact n z, q⟩
theorem RepAll.more {v : List V} {t : List T} {p : Addr} (hp : H p = none) (h : RepAll K A H v t) : RepAll K (p :: A) H v t := h.to fun a o n q => ⟨fun z => by
  rcases List.mem_cons.mp z with z | z
  · subst z; rw [hp] at q; cases q
  · exact n z, q⟩
theorem RepAll.length : ∀ {vs : List V} {ts : List T}, RepAll K A H vs ts → vs.length = ts.length
  | _, _, .nil => rfl
  | _, _, .cons _ r => congrArg (· + 1) (RepAll.length r)
theorem RepAll.get : ∀ {vs : List V} {ts : List T} {i : Nat} {t : T}, RepAll K A H vs ts → ts[i]? = some t → ∃ v, vs[i]? = some v ∧ Rep K A H v t
  | _, _, i, _, .nil, h => by simp at h
  | _, _, 0, _, .cons h r, e => by simp at e; subst e; exact ⟨_, rfl, h⟩
  | _, _, i + 1, _, .cons h r, e => by
    obtain ⟨v, h1, h2⟩ := RepAll.get (i := i) r (by simpa using e)
    exact ⟨v, by simpa using h1, h2⟩
theorem RepAll.append : ∀ {vs : List V} {ts : List T} {ws : List V} {us : List T}, RepAll K A H vs ts → RepAll K A H ws us → RepAll K A H (vs ++ ws) (ts ++ us)
  | _, _, _, _, .nil, s => s
  | _, _, _, _, .cons h r, s => .cons h (RepAll.append r s)
theorem RepAll.drop : ∀ {vs : List V} {ts : List T} (n : Nat), RepAll K A H vs ts → RepAll K A H (vs.drop n) (ts.drop n)
  | _, _, 0, r => r
  | _, _, _ + 1, .nil => .nil
  | _, _, n + 1, .cons _ r => RepAll.drop n r
theorem RepAll.take : ∀ {vs : List V} {ts : List T} (n : Nat), RepAll K A H vs ts → RepAll K A H (vs.take n) (ts.take n)
  | _, _, 0, _ => .nil
  | _, _, _ + 1, .nil => .nil
  | _, _, n + 1, .cons h r => .cons h (RepAll.take n r)
theorem RepAll.set {v : V} {t : T} (h : Rep K A H v t) : ∀ {vs : List V} {ts : List T} (n : Nat), RepAll K A H vs ts → RepAll K A H (vs.set n v) (ts.set n t)
  | _, _, _, .nil => .nil
  | _, _, 0, .cons _ r => .cons h r
  | _, _, n + 1, .cons q r => .cons q (RepAll.set h n r)
theorem RepAll.rep {vs : List V} {ts : List T} (h : RepAll K A H vs ts) : ∀ n : Nat, RepAll K A H (List.replicate n vs).flatten (List.replicate n ts).flatten
  | 0 => .nil
  | n + 1 => by
    rw [List.replicate_succ, List.replicate_succ, List.flatten_cons, List.flatten_cons]
    exact h.append (RepAll.rep h n)
theorem RepAll.bls : ∀ {vs : List V} {ns : List Bool}, RepAll K A H vs (ns.map T.bl) → vs = ns.map V.bl
  | _, [], .nil => rfl
  | _, n :: ns, .cons h r => by
    cases h
    rw [RepAll.bls r]
    rfl
end

/-! ### 2. what may be read of a value: its own object, what is in it as trees -/
inductive RepS (K : PySem.W.Frag) (A : Avoid) (H : Hp) : V → T → Prop
  | of {v : V} {t : T} : Rep K A H v t → RepS K A H v t
  | own {l : Addr} {vs : List V} {ts : List T} : H l = some (.lst vs) → RepAll K A H vs ts → RepS K A H (.ref l) (.lst ts)
  | ownd {l : Addr} {ks : List Key} {vs : List V} {ts : List T} : H l = some (.dK (ks.zip vs)) → ks.length = vs.length → RepAll K A H vs ts → RepS K A H (.ref l) (.dct ks ts)
section
variable {K : PySem.W.Frag} {A B : Avoid} {H H' : Hp} {v : V} {ts : List T}
theorem RepS.tup (h : RepS K A H v (.tup ts)) : ∃ a vs, v = .ref a ∧ SqT K H a vs ∧ RepAll K A H vs ts := by
  cases h with
  | of h => cases h with
    | tup n h r => exact ⟨_, _, rfl, .inl (.inl h), r⟩
    | tupK h r => exact ⟨_, _, rfl, .inr h, r⟩
theorem RepS.lst (h : RepS K A H v (.lst ts)) : ∃ a vs, v = .ref a ∧ H a = some (.lst vs) ∧ RepAll K A H vs ts := by
  cases h with
  | of h => cases h with
    | lst n h r => exact ⟨_, _, rfl, h, r⟩
  | own h r => exact ⟨_, _, rfl, h, r⟩
theorem RepS.dct {ks : List Key} (h : RepS K A H v (.dct ks ts)) : ∃ a vs, v = .ref a ∧ Rd H a (.dK (ks.zip vs)) ∧ ks.length = vs.length ∧ RepAll K A H vs ts := by
  cases h with
  | of h => cases h with
    | dct n h l r => exact ⟨_, _, rfl, h, l, r⟩
  | ownd h l r => exact ⟨_, _, rfl, .inl h, l, r⟩
theorem RepS.scr (h : RepS K A H v (.scr ts)) : ∃ a vs, v = .ref a ∧ SqL K H a vs ∧ RepAll K A H vs ts := by
  cases h with
  | of h => cases h with
    | scr n h r => exact ⟨_, _, rfl, .inl (.inr ⟨_, h⟩), r⟩
    | scrK h r => exact ⟨_, _, rfl, .inr h, r⟩
theorem RepS.int {i : Int} (h : RepS K A H v (.int i)) : v = .int i := by cases h with | of h => cases h; rfl
theorem RepS.bl {i : Bool} (h : RepS K A H v (.bl i)) : v = .bl i := by cases h with | of h => cases h; rfl
theorem RepS.str {i : Str} (h : RepS K A H v (.str i)) : v = .str i := by cases h with | of h => cases h; rfl
theorem RepS.ty {i : String} (h : RepS K A H v (.ty i)) : v = .ty i := by cases h with | of h => cases h; rfl
theorem RepS.non (h : RepS K A H v .non) : v = .non := by cases h with | of h => cases h; rfl
end
/-- a list of the trees of a readable sequence -/
def T.seq : T → Option (List T)
  | .tup ts => some ts
  | .lst ts => some ts
  | .scr ts => some ts
  | _ => none
theorem RepS.seq {K : PySem.W.Frag} {A : Avoid} {H : Hp} {v : V} {t : T} {ts : List T} (h : RepS K A H v t) (e : t.seq = some ts) : ∃ a vs, v = .ref a ∧ (SqL K H a vs ∨ SqT K H a vs) ∧ RepAll K A H vs ts := by
  cases t <;> simp only [T.seq] at e <;> cases e
  · obtain ⟨a, vs, e, h, r⟩ := h.tup; exact ⟨a, vs, e, .inr h, r⟩
  · obtain ⟨a, vs, e, h, r⟩ := h.lst; exact ⟨a, vs, e, .inl (.inl (.inl h)), r⟩
  · obtain ⟨a, vs, e, h, r⟩ := h.scr; exact ⟨a, vs, e, .inl h, r⟩

/-! ### 3. the state of a def's body -/
def DiceAt (H : Hp) (d : Addr) : Prop := ∃ a b c : Int, H d = some (.lst [.int a, .int b, .int c])
/-- the tables of code objects that lambdas write -/
class Tabl where
  T : List (Addr × Str)
  uniq : ∀ p ∈ T, ∀ r ∈ T, p.1 = r.1 → p.2 = r.2
variable [Tabl]
/-- the dice, or a table of code objects -/
def MovAt (H : Hp) (d : Addr) : Prop := DiceAt H d ∨ ∃ q, (d, q) ∈ Tabl.T ∧ LamX.TabS H d q
def Keep (H H' : Hp) (d : Addr) : Prop := (DiceAt H d → DiceAt H' d) ∧ ∀ q, (d, q) ∈ Tabl.T → LamX.TabS H d q → LamX.TabS H' d q
theorem Keep.refl {H : Hp} {d : Addr} : Keep H H d := ⟨fun x => x, fun _ _ x => x⟩
theorem Keep.trans {H H1 H' : Hp} {d : Addr} (a : Keep H H1 d) (b : Keep H1 H' d) : Keep H H' d := ⟨fun x => b.1 (a.1 x), fun q m x => b.2 q m (a.2 q m x)⟩
theorem Keep.of {H H' : Hp} {d : Addr} (e : ∀ b o, H b = some o → H' b = some o) : Keep H H' d := ⟨fun ⟨a, b, c, h⟩ => ⟨a, b, c, e _ _ h⟩, fun _ _ t => t.ext e⟩
theorem MovAt.keep {H H' : Hp} {d : Addr} (m : MovAt H d) (k : Keep H H' d) : MovAt H' d := by
  rcases m with m | ⟨q, g, m⟩
  · exact .inl (k.1 m)
  · exact .inr ⟨q, g, k.2 q g m⟩
theorem Keep.new {H : Hp} {d p : Addr} {o : HO} (hp : H p = none) : Keep H (upd H p o) d := .of fun b u e => by rw [upd_ne (ne_of_none e hp)]; exact e
theorem Keep.upd {H : Hp} {d l : Addr} {o : HO} (n : d ≠ l) (hx : ∀ φ, H l ≠ some (.ext φ)) : Keep H (upd H l o) d := ⟨fun ⟨a, b, c, h⟩ => ⟨a, b, c, by rw [upd_ne n]; exact h⟩, fun q _ ⟨ps, h1, h2, h3⟩ => ⟨ps, by rw [upd_ne n]; exact h1, h2, fun pos cv hc => by
  obtain ⟨c, e1, e2⟩ := h3 pos cv hc
  exact ⟨c, e1, by rw [upd_ne (fun z => hx _ (by rw [← z]; exact e2))]; exact e2⟩⟩⟩
theorem DiceAt.alive {H : Hp} {d : Addr} : DiceAt H d → ∃ u, H d = some u := fun ⟨_, _, _, h⟩ => ⟨_, h⟩
theorem MovAt.alive {H : Hp} {d : Addr} : MovAt H d → ∃ u, H d = some u := fun m => by
  rcases m with m | ⟨q, _, ps, h, _⟩
  · exact m.alive
  · exact ⟨_, h⟩
theorem MovAt.here {H : Hp} {d : Addr} (m : MovAt H d) : H d ≠ none := fun q => by
  obtain ⟨u, e⟩ := m.alive
  rw [e] at q; cases q
/-- what an object of the def's own is -/
def OwnAt (K : PySem.W.Frag) (A : Avoid) (H : Hp) (l : Addr) : OwnT → Prop
  | .lst ts => ∃ vs, H l = some (.lst vs) ∧ RepAll K A H vs ts
  | .dct ks ts => ∃ vs, H l = some (.dK (ks.zip vs)) ∧ ks.length = vs.length ∧ RepAll K A H vs ts
def SlOk (K : PySem.W.Frag) (D A0 A : Avoid) (H : Hp) (v : V) : Sl → Prop
  | .any => True
  | .val t => Rep K A H v t
  | .ob l o => v = .ref l ∧ l ∈ A ∧ l ∉ A0 ∧ l ∉ D ∧ OwnAt K A H l o
  | .dice => ∃ d, v = .ref d ∧ d ∈ D ∧ DiceAt H d
def Slot (K : PySem.W.Frag) (D A0 A : Avoid) (H : Hp) (o : Option V) (x : Sl) : Prop := x = .any ∨ ∃ v, o = some v ∧ SlOk K D A0 A H v x
abbrev Slots (K : PySem.W.Frag) (D A0 A : Avoid) (H : Hp) : L2.St → List Sl → Prop := Paired (Slot K D A0 A H)
/-- lists of one's own in unlike slots are unlike -/
def Dist (sl : List Sl) : Prop := ∀ (i j : Nat) (l l' : Addr) (ts ts' : OwnT), sl[i]? = some (Sl.ob l ts) → sl[j]? = some (Sl.ob l' ts') → i ≠ j → l ≠ l'
/-- what a def's body stands upon: the dice, what is avoided and the heap at its entry; values that are held aside -/
structure Fx where
  D0 : Avoid
  A0 : Avoid
  H0 : Hp
  G : List (V × T)
  L : List (Addr × Obj × List (Key × V))
def TabF (D : Avoid) (H : Hp) : Prop := ∀ p ∈ Tabl.T, p.1 ∈ D ∧ LamX.TabS H p.1 p.2
structure Liv (D A : Avoid) (H : Hp) : Prop where
  alive : ∀ a ∈ A, H a ≠ none
  tabs : TabF D H
structure Sta (K : PySem.W.Frag) (F : Fx) (D A : Avoid) (H : Hp) (σ : L2.St) (sl : List Sl) : Prop where
  dice : ∀ d ∈ D, MovAt H d
  dA : ∀ d ∈ D, d ∈ A
  sub : ∀ a ∈ F.A0, a ∈ A
  alive : ∀ a ∈ A, H a ≠ none
  base : ∀ a ∈ A, a ∈ F.A0 ∨ F.H0 a = none
  dbase : ∀ d ∈ D, d ∈ F.D0 ∨ F.H0 d = none
  dsub : ∀ d ∈ F.D0, d ∈ D
  keep : ∀ d ∈ F.D0, Keep F.H0 H d
  tabs : TabF F.D0 F.H0
  ext : Ext F.D0 F.H0 H
  slots : Slots K D F.A0 A H σ sl
  dist : Dist sl
  gh : ∀ p ∈ F.G, Rep K A H p.1 p.2
  lk : ∀ p ∈ F.L, p.1 ∉ A ∧ H p.1 = some (.frz p.2.1 (.dK p.2.2))
/-- behind an expression: nothing but the dice changed -/
structure Beh (D : Avoid) (H H' : Hp) : Prop where
  ext : Ext D H H'
  dice : ∀ d ∈ D, Keep H H' d
section
variable {K : PySem.W.Frag} {F : Fx} {A0 D A B : Avoid} {H H' H1 : Hp} {σ : L2.St} {sl : List Sl} {v : V} {x : Sl} {i : Nat}
theorem ext_da (d : ∀ a ∈ D, a ∈ A) (e : Ext D H H') : Ext A H H' := e.mono d
theorem OwnAt.map {A' : Avoid} {l : Addr} (e1 : ∀ o, H l = some o → H' l = some o) (f : ∀ vs ts, RepAll K A H vs ts → RepAll K A' H' vs ts) : ∀ {o : OwnT}, OwnAt K A H l o → OwnAt K A' H' l o
  | .lst ts, ⟨vs, h5, h6⟩ => ⟨vs, e1 _ h5, f _ _ h6⟩
  | .dct ks ts, ⟨vs, h5, hl, h6⟩ => ⟨vs, e1 _ h5, hl, f _ _ h6⟩
theorem OwnAt.alive {l : Addr} : ∀ {o : OwnT}, OwnAt K A H l o → ∃ u, H l = some u
  | .lst _, ⟨_, h, _⟩ => ⟨_, h⟩
  | .dct _ _, ⟨_, h, _, _⟩ => ⟨_, h⟩
theorem OwnAt.noext {l : Addr} {o : OwnT} (h : OwnAt K A H l o) (φ : Heap → Prop) : H l ≠ some (.ext φ) := fun z => by
  cases o with
  | lst _ =>
    obtain ⟨_, g, _⟩ := h
    rw [g] at z; cases z
  | dct _ _ =>
    obtain ⟨_, g, _⟩ := h
    rw [g] at z; cases z
def OwnT.tree : OwnT → T
  | .lst ts => .lst ts
  | .dct ks ts => .dct ks ts
theorem OwnAt.rep {A' : Avoid} {l : Addr} (hl : l ∉ A') (f : ∀ vs ts, RepAll K A H vs ts → RepAll K A' H vs ts) : ∀ {o : OwnT}, OwnAt K A H l o → Rep K A' H (.ref l) o.tree
  | .lst ts, ⟨vs, h5, h6⟩ => Rep.lst hl h5 (f _ _ h6)
  | .dct ks ts, ⟨vs, h5, h, h6⟩ => Rep.dct hl (.inl h5) h (f _ _ h6)
theorem OwnAt.mono {l : Addr} (e1 : ∀ o, H l = some o → H' l = some o) (e : Ext A H H') : ∀ {o : OwnT}, OwnAt K A H l o → OwnAt K A H' l o
  | .lst ts, ⟨vs, h5, h6⟩ => ⟨vs, e1 _ h5, h6.mono e⟩
  | .dct ks ts, ⟨vs, h5, hl, h6⟩ => ⟨vs, e1 _ h5, hl, h6.mono e⟩
theorem SlOk.mono (d : ∀ a ∈ D, a ∈ A) (e : Beh D H H') : ∀ {x : Sl}, SlOk K D A0 A H v x → SlOk K D A0 A H' v x
  | .any, _ => trivial
  | .val t, h => Rep.mono (ext_da d e.ext) h
  | .ob l o, ⟨h1, h2, h3, h4, h5⟩ => ⟨h1, h2, h3, h4, h5.mono (fun o q => e.ext _ _ h4 q) (ext_da d e.ext)⟩
  | .dice, ⟨a, h1, h2, h3⟩ => ⟨a, h1, h2, (e.dice a h2).1 h3⟩
theorem Paired.imp {α β : Type} {R S : α → β → Prop} (f : ∀ a b, R a b → S a b) : ∀ {xs : List α} {ys : List β}, Paired R xs ys → Paired S xs ys
  | _, _, .nil => .nil
  | _, _, .cons h r => .cons (f _ _ h) (Paired.imp f r)
theorem Paired.at {α β : Type} {R : α → β → Prop} : ∀ {xs : List α} {ys : List β} {i : Nat} {y : β}, Paired R xs ys → ys[i]? = some y → ∃ x, xs[i]? = some x ∧ R x y
  | _, _, i, _, .nil, h => by simp at h
  | _, _, 0, _, .cons h r, e => by simp at e; subst e; exact ⟨_, rfl, h⟩
  | _, _, i + 1, _, .cons h r, e => by
    obtain ⟨v, h1, h2⟩ := Paired.at (i := i) r (by simpa using e)
    exact ⟨v, by simpa using h1, h2⟩
theorem Paired.setP {α β : Type} {R : α → β → Prop} {x : α} {y : β} (h : R x y) : ∀ {xs : List α} {ys : List β} (i : Nat), Paired R xs ys → Paired R (xs.set i x) (ys.set i y)
  | _, _, _, .nil => .nil
  | _, _, 0, .cons _ r => .cons h r
  | _, _, n + 1, .cons q r => .cons q (Paired.setP h n r)
theorem Slots.mono (d : ∀ a ∈ D, a ∈ A) (e : Beh D H H') (h : Slots K D A0 A H σ sl) : Slots K D A0 A H' σ sl := Paired.imp (fun o x q => by
  rcases q with q | ⟨v, q1, q2⟩
  · exact .inl q
  · exact .inr ⟨v, q1, q2.mono d e⟩) h
theorem Sta.beh (S : Sta K F D A H σ sl) (b : Beh D H H') : Sta K F D A H' σ sl where
  dice := fun d hd => (S.dice d hd).keep (b.dice d hd)
  dA := S.dA
  sub := S.sub
  alive := fun a ha q => by
    by_cases hd : a ∈ D
    · exact ((S.dice a hd).keep (b.dice a hd)).here q
    · cases e : H a with
      | none => exact S.alive a ha e
      | some o => rw [b.ext a o hd e] at q; cases q
  base := S.base
  dbase := S.dbase
  dsub := S.dsub
  keep := fun d hd => (S.keep d hd).trans (b.dice d (S.dsub d hd))
  tabs := S.tabs
  ext := fun a o n q => by
    by_cases hd : a ∈ D
    · rcases S.dbase a hd with z | z
      · exact absurd z n
      · rw [z] at q; cases q
    · exact b.ext a o hd (S.ext a o n q)
  slots := S.slots.mono S.dA b
  dist := S.dist
  gh := fun p hp => (S.gh p hp).mono (ext_da S.dA b.ext)
  lk := fun p hp => ⟨(S.lk p hp).1, b.ext _ _ (fun z => (S.lk p hp).1 (S.dA _ z)) (S.lk p hp).2⟩
theorem Sta.liv (S : Sta K F D A H σ sl) : Liv D A H := ⟨S.alive, fun p hp => ⟨S.dsub _ (S.tabs p hp).1, (S.keep _ (S.tabs p hp).1).2 _ hp (S.tabs p hp).2⟩⟩
theorem Beh.refl (S : Sta K F D A H σ sl) : Beh D H H := ⟨Ext.refl H, fun _ _ => Keep.refl⟩
theorem Beh.trans (a : Beh D H H1) (b : Beh D H1 H') : Beh D H H' := ⟨a.ext.trans b.ext, fun d hd => (a.dice d hd).trans (b.dice d hd)⟩
theorem Beh.of_ext (S : Sta K F D A H σ sl) (e : Ext [] H H') : Beh D H H' := ⟨e.mono (by intro a z; cases z), fun d hd => Keep.of fun b o q => e b o (by intro z; cases z) q⟩
theorem Sta.get (S : Sta K F D A H σ sl) (h : sl[i]? = some x) (hx : x ≠ .any) : ∃ v, σ[i]? = some (some v) ∧ SlOk K D F.A0 A H v x := by
  obtain ⟨o, h1, h2⟩ := Paired.at S.slots h
  rcases h2 with z | ⟨v, rfl, q⟩
  · exact absurd z hx
  · exact ⟨v, h1, q⟩
end
/-- the tree of what a slot holds, as it can be read -/
def Sl.tree : Sl → Option T
  | .val t => some t
  | .ob _ (.lst ts) => some (.lst ts)
  | .ob _ (.dct ks ts) => some (.dct ks ts)
  | _ => none
theorem SlOk.reads {K : PySem.W.Frag} {D A0 A : Avoid} {H : Hp} {v : V} {x : Sl} {t : T} (h : SlOk K D A0 A H v x) (e : x.tree = some t) : RepS K A H v t := by
  match x, h, e with
  | .val u, h, e => cases e; exact .of h
  | .ob l (.lst ts), h, e =>
    cases e
    obtain ⟨rfl, _, _, _, vs, h1, h2⟩ := h
    exact .own h1 h2
  | .ob l (.dct ks ts), h, e =>
    cases e
    obtain ⟨rfl, _, _, _, vs, h1, h3, h2⟩ := h
    exact .ownd h1 h3 h2

/-! ### 4. readings of trees -/
abbrev WE := List Sl → (Sl → Prop) → Prop
abbrev WT := List Sl → (Bool → Prop) → Prop
abbrev WA := List Sl → (List Sl → Prop) → Prop
abbrev WF := List Sl → (Sl → Prop) → Prop
structure Ks where
  nx : List Sl → Prop
  rt : Sl → Prop
  bk : List Sl → Prop
  ct : List Sl → Prop
abbrev WS := Ks → List Sl → Prop

def eOf (K : PySem.W.Frag) (w : WE) : TE := fun σ H Q => ∃ F D A sl P, Sta K F D A H σ sl ∧ w sl P ∧ ∀ v H' x, Beh D H H' → SlOk K D F.A0 A H' v x → P x → Q v H'
def tOf (K : PySem.W.Frag) (w : WT) : TT := fun σ H Q => ∃ F D A sl P, Sta K F D A H σ sl ∧ w sl P ∧ ∀ b H', Beh D H H' → P b → Q b H'
def aOf (K : PySem.W.Frag) (w : WA) : TA := fun σ H Q => ∃ F D A sl P, Sta K F D A H σ sl ∧ w sl P ∧ ∀ vs H' xs, Beh D H H' → Paired (SlOk K D F.A0 A H') vs xs → P xs → Q vs H'
def sOf (K : PySem.W.Frag) (w : WS) : TS := fun E σ H => ∃ F D A sl k, Sta K F D A H σ sl ∧ w k sl ∧
  (∀ D' A' H' σ' sl', Sta K F D' A' H' σ' sl' → k.nx sl' → E.nx σ' H') ∧ (∀ D' A' H' σ' sl', Sta K F D' A' H' σ' sl' → k.bk sl' → E.bk σ' H') ∧ (∀ D' A' H' σ' sl', Sta K F D' A' H' σ' sl' → k.ct sl' → E.ct σ' H') ∧
  (∀ D' A' H' σ' sl' v x, Sta K F D' A' H' σ' sl' → SlOk K D' F.A0 A' H' v x → k.rt x → E.rt v H')
abbrev GE (X : Cx) (e : Expr) (w : WE) : Prop := PE X e (eOf X.K w)
abbrev GT (X : Cx) (e : Expr) (w : WT) : Prop := PT X e (tOf X.K w)
abbrev GW (X : Cx) (e : Expr) (w : WT) : Prop := PW X e (tOf X.K w)
abbrev GA (X : Cx) (es : List Expr) (w : WA) : Prop := PA X es (aOf X.K w)
abbrev GS (X : Cx) (st : Stmt) (w : WS) : Prop := PS X st (sOf X.K w)
abbrev GSs (X : Cx) (sts : List Stmt) (w : WS) : Prop := PSs X sts (sOf X.K w)
def SE (K : PySem.W.Frag) (t : TE) (w : WE) : Prop := ∀ F D A H σ sl P Q, Sta K F D A H σ sl → w sl P → (∀ v H' x, Beh D H H' → SlOk K D F.A0 A H' v x → P x → Q v H') → t σ H Q
def ST (K : PySem.W.Frag) (t : TT) (w : WT) : Prop := ∀ F D A H σ sl P Q, Sta K F D A H σ sl → w sl P → (∀ b H', Beh D H H' → P b → Q b H') → t σ H Q
def SA (K : PySem.W.Frag) (t : TA) (w : WA) : Prop := ∀ F D A H σ sl P Q, Sta K F D A H σ sl → w sl P → (∀ vs H' xs, Beh D H H' → Paired (SlOk K D F.A0 A H') vs xs → P xs → Q vs H') → t σ H Q
end Tr


set_option Elab.async false
set_option linter.all false
set_option maxRecDepth 100000
set_option maxHeartbeats 0
namespace Tr
open PySem PySem.Spec PyProof.Rows L2
variable [Tabl]
section
variable {X : Cx} {K : PySem.W.Frag}

/-! ### 5. from the layer's readings to trees -/
theorem ge_of {e : Expr} {t : TE} {w : WE} (h : PE X e t) (s : SE X.K t w) : GE X e w := ⟨fun pins st σ H Q I ⟨F, D, A, sl, P, S, hw, q⟩ => h.run pins st σ H Q I (s F D A H σ sl P Q S hw q)⟩
theorem gt_of {e : Expr} {t : TT} {w : WT} (h : PT X e t) (s : ST X.K t w) : GT X e w := ⟨fun pins st σ H Q I ⟨F, D, A, sl, P, S, hw, q⟩ => h.run pins st σ H Q I (s F D A H σ sl P Q S hw q)⟩
theorem gw_of {e : Expr} {t : TT} {w : WT} (h : PW X e t) (s : ST X.K t w) : GW X e w := ⟨fun wh pins st σ H Q I ⟨F, D, A, sl, P, S, hw, q⟩ => h.run wh pins st σ H Q I (s F D A H σ sl P Q S hw q)⟩
theorem ga_of {e : List Expr} {t : TA} {w : WA} (h : PA X e t) (s : SA X.K t w) : GA X e w := ⟨fun p pins st σ H Q I ⟨F, D, A, sl, P, S, hw, q⟩ => h.run p pins st σ H Q I (s F D A H σ sl P Q S hw q)⟩
theorem GW.gt {e : Expr} {w : WT} (h : GW X e w) : GT X e w := PW.pt h
theorem st_self {w : WT} : ST K (tOf K w) w := fun F D A H σ sl P Q S hw q => ⟨F, D, A, sl, P, S, hw, q⟩
/-! ### names and constants -/
def nth (sl : List Sl) (i : Nat) : Sl := (sl[i]?).getD .any
def wVar (i : Nat) : WE := fun sl P => nth sl i ≠ .any ∧ P (nth sl i)
theorem se_var {i : Nat} : SE K (tVar i) (wVar i) := fun F D A H σ sl P Q S hw q => by
  obtain ⟨h1, h2⟩ := hw
  unfold nth at h1 h2
  cases e : sl[i]? with
  | none => rw [e] at h1; exact absurd rfl h1
  | some x =>
    rw [e] at h1 h2
    obtain ⟨v, hv, ok⟩ := S.get e h1
    exact ⟨v, hv, q v H _ (Beh.refl S) ok h2⟩
theorem ge_var (i : Nat) {x : Str} {pos : Pos} (hN : X.N[i]? = some x := by rfl) (hv : Vis X.env.scope x := by first | exact Or.inl rfl | exact Or.inr (Or.inl rfl) | exact Or.inr (Or.inr rfl)) (hd : (x == ("__debug__" : Str)) = false := by decide)
    (hcd : (x == ("__classdict__" : Str)) = false := by decide) : GE X (.Name x pos) (wVar i) := ge_of (pe_var hN hv hd hcd) se_var
def wC (t : T) : WE := fun _ P => P (.val t)
/-- a constant's tree -/
inductive CT : V → T → Prop
  | non : CT .non .non | bl (b : Bool) : CT (.bl b) (.bl b) | int (i : Int) : CT (.int i) (.int i) | str (x : Str) : CT (.str x) (.str x) | ty (n : String) : CT (.ty n) (.ty n)
theorem CT.rep {v : V} {t : T} {A : Avoid} {H : Hp} (c : CT v t) : Rep K A H v t := by
  cases c
  · exact .non
  · exact .bl _
  · exact .int _
  · exact .str _
  · exact .ty _
theorem se_c {v : V} {t : T} (c : CT v t) : SE K (tC v) (wC t) := fun F D A H σ sl P Q S hw q => q v H (.val t) (Beh.refl S) c.rep hw
theorem ge_int {i j pos} : GE X (.Constant (.int i) j pos) (wC (.int i)) := ge_of pe_int (se_c (.int i))
theorem ge_bl {b j pos} : GE X (.Constant (.bool b) j pos) (wC (.bl b)) := ge_of pe_bl (se_c (.bl b))
theorem ge_non {j pos} : GE X (.Constant .none j pos) (wC .non) := ge_of pe_non (se_c .non)
theorem ge_str {x j pos} : GE X (.Constant (.str x) j pos) (wC (.str x)) := ge_of pe_str (se_c (.str x))
theorem ge_globI {x : Str} {i : Int} {pos : Pos} (hg : Gl X x) (hm : ∃ t, X.mg x = some (.int i t)) (hd : (x == ("__debug__" : Str)) = false := by decide) : GE X (.Name x pos) (wC (.int i)) := by
  obtain ⟨t, hm⟩ := hm
  exact ge_of (pe_glob (v := .int i) hg hm ⟨t, rfl⟩ hd) (se_c (.int i))
theorem ge_globS {x : Str} {i : Str} {pos : Pos} (hg : Gl X x) (hm : ∃ t, X.mg x = some (.str i t)) (hd : (x == ("__debug__" : Str)) = false := by decide) : GE X (.Name x pos) (wC (.str i)) := by
  obtain ⟨t, hm⟩ := hm
  exact ge_of (pe_glob (v := .str i) hg hm ⟨t, rfl⟩ hd) (se_c (.str i))
theorem ge_ty {x : Str} {n : String} {pos : Pos} (hg : Gl X x) (hm : X.mg x = none) (hv : bootBuiltins x = some (.type n)) (hn : x ≠ "__name__" := by decide) (hd : (x == ("__debug__" : Str)) = false := by decide) : GE X (.Name x pos) (wC (.ty n)) :=
  ge_of (pe_bltn (v := .ty n) hg hm hv rfl hn hd) (se_c (.ty n))

/-! ### operators -/
def SOp (K : PySem.W.Frag) (r : R2) (f : T → T → Option T) : Prop := ∀ (A : Avoid) (H : Hp) (u v : V) (x y z : T) (Q : VK), (∀ a ∈ A, H a ≠ none) → RepS K A H u x → RepS K A H v y → f x y = some z → (∀ w H', Ext [] H H' → Rep K A H' w z → Q w H') → r u v H Q
def wOp (f : T → T → Option T) (a b : WE) : WE := fun sl P => a sl fun x => b sl fun y => ∃ s t z, x.tree = some s ∧ y.tree = some t ∧ f s t = some z ∧ P (.val z)
theorem se_op {r : R2} {f : T → T → Option T} {wa wb : WE} (h : SOp K r f) : SE K (tOp r (eOf K wa) (eOf K wb)) (wOp f wa wb) := fun F D A H σ sl P Q S hw q =>
  ⟨F, D, A, sl, _, S, hw, fun u H1 x b1 ok1 hx => ⟨F, D, A, sl, _, S.beh b1, hx, fun v H2 y b2 ok2 hy => by
    obtain ⟨s, t, z, e1, e2, e3, hp⟩ := hy
    have S2 := (S.beh b1).beh b2
    refine h A H2 u v s t z Q S2.alive ((ok1.mono S.dA b2).reads e1) (ok2.reads e2) e3 fun w H3 e rz => ?_
    exact q w H3 (.val z) ((b1.trans b2).trans (Beh.of_ext S2 e)) rz hp⟩⟩
theorem ge_op {op : Operator} {r : R2} {f : T → T → Option T} {a b : Expr} {wa wb : WE} {pos : Pos} (ho : OpR X (binaryOp op) r) (h : SOp X.K r f) (ha : GE X a wa) (hb : GE X b wb) : GE X (.BinOp a op b pos) (wOp f wa wb) := ge_of (pe_op ho ha hb) (se_op h)
theorem ge_cmp {op : CmpOp} {r : R2} {f : T → T → Option T} {a b : Expr} {wa wb : WE} {pos : Pos} (ho : OpR X (compareOp op) r) (h : SOp X.K r f) (ha : GE X a wa) (hb : GE X b wb) (hm : behindInMarks op b = false := by first | exact nomark _ | rfl) : GE X (.Compare a [op] [b] pos) (wOp f wa wb) := ge_of (pe_cmpR ho ha hb hm) (se_op h)
/-- a value that is a bool, as a test -/
def wB (w : WE) : WT := fun sl P => w sl fun x => ∃ b, x = .val (.bl b) ∧ P b
theorem gt_cmp {op : CmpOp} {r : R2} {f : T → T → Option T} {a b : Expr} {wa wb : WE} {pos : Pos} (ho : OpR X (compareOp op) r) (h : SOp X.K r f) (ha : GE X a wa) (hb : GE X b wb) (hm : behindInMarks op b = false := by first | exact nomark _ | rfl) : GT X (.Compare a [op] [b] pos) (wB (wOp f wa wb)) :=
  gt_of (pt_cmpR ho ha hb hm) fun F D A H σ sl P Q S hw q => by
    obtain h1 := se_op h F D A H σ sl _ (fun v H' => ∃ k, v = .bl k ∧ Q k H') S hw (fun v H1 x b1 ok hx => by
      obtain ⟨b, rfl, hp⟩ := hx
      cases ok
      exact ⟨b, rfl, q b H1 b1 hp⟩)
    exact h1
/-- a chain of two comparisons -/
def wChain (f g : T → T → Option T) (a b c : WE) : WE := fun sl P => a sl fun x => b sl fun y => ∃ s t k, x.tree = some s ∧ y.tree = some t ∧ f s t = some (.bl k) ∧ (if k = true then c sl fun z => ∃ u r, z.tree = some u ∧ g t u = some r ∧ P (.val r) else P (.val (.bl false)))
theorem se_chain {r r' : R2} {f g : T → T → Option T} {wa wb wc : WE} (h : SOp K r f) (h' : SOp K r' g) : SE K (tChain r r' (eOf K wa) (eOf K wb) (eOf K wc)) (wChain f g wa wb wc) := fun F D A H σ sl P Q S hw q =>
  ⟨F, D, A, sl, _, S, hw, fun u H1 x b1 ok1 hx => ⟨F, D, A, sl, _, S.beh b1, hx, fun v H2 y b2 ok2 hy => by
    obtain ⟨s, t, k, e1, e2, e3, hp⟩ := hy
    have S2 := (S.beh b1).beh b2
    refine h A H2 u v s t _ _ S2.alive ((ok1.mono S.dA b2).reads e1) (ok2.reads e2) e3 fun w H3 e rz => ?_
    cases rz
    refine ⟨k, rfl, ?_⟩
    have b3 := Beh.of_ext S2 e
    cases k with
    | false => 
      rw [if_neg Bool.false_ne_true] at hp ⊢
      exact q _ H3 (.val (.bl false)) ((b1.trans b2).trans b3) (Rep.bl false) hp
    | true =>
      rw [if_pos rfl] at hp ⊢
      refine ⟨F, D, A, sl, _, S2.beh b3, hp, fun z H4 c b4 ok4 hz => ?_⟩
      obtain ⟨u', r', e4, e5, hp'⟩ := hz
      have S4 := (S2.beh b3).beh b4
      refine h' A H4 v z t u' r' Q S4.alive ((ok2.mono S.dA (b3.trans b4)).reads e2) (ok4.reads e4) e5 fun w H5 e6 rz => ?_
      exact q w H5 (.val r') ((((b1.trans b2).trans b3).trans b4).trans (Beh.of_ext S4 e6)) rz hp'⟩⟩
theorem ge_chain {op op' : CmpOp} {r r' : R2} {f g : T → T → Option T} {a b c : Expr} {wa wb wc : WE} {pos : Pos} (ho : OpR X (compareOp op) r) (ho' : OpR X (compareOp op') r') (h : SOp X.K r f) (h' : SOp X.K r' g) (ha : GE X a wa) (hb : GE X b wb) (hc : GE X c wc)
    (hm : lastMarks [op, op'] [b, c] = false := by with_unfolding_all rfl) : GE X (.Compare a [op, op'] [b, c] pos) (wChain f g wa wb wc) := ge_of (pe_chain ho ho' ha hb hc hm) (se_chain h h')
theorem gt_chain {op op' : CmpOp} {r r' : R2} {f g : T → T → Option T} {a b c : Expr} {wa wb wc : WE} {pos : Pos} (ho : OpR X (compareOp op) r) (ho' : OpR X (compareOp op') r') (h : SOp X.K r f) (h' : SOp X.K r' g) (ha : GE X a wa) (hb : GE X b wb) (hc : GE X c wc)
    (hm : lastMarks [op, op'] [b, c] = false := by with_unfolding_all rfl) : GT X (.Compare a [op, op'] [b, c] pos) (wB (wChain f g wa wb wc)) := gt_of (pt_chain ho ho' ha hb hc hm) fun F D A H σ sl P Q S hw q => by
    obtain h1 := se_chain h h' F D A H σ sl _ (fun v H' => ∃ k, v = .bl k ∧ Q k H') S hw (fun v H1 x b1 ok hx => by
      obtain ⟨b, rfl, hp⟩ := hx
      cases ok
      exact ⟨b, rfl, q b H1 b1 hp⟩)
    exact h1
/-- x is None, x is not None -/
def isN (x : Sl) : Option Bool := match x with
  | .val .non => some true
  | .val _ => some false
  | .ob _ _ => some false
  | _ => none
theorem isN_ok {D A0 A : Avoid} {H : Hp} {v : V} {x : Sl} {b : Bool} (ok : SlOk K D A0 A H v x) (e : isN x = some b) : decide (v = .non) = b := by
  cases x with
  | any => cases e
  | dice => cases e
  | ob l ts => cases e; obtain ⟨rfl, _⟩ := ok; exact decide_eq_false (fun z => nomatch z)
  | val t => cases ok <;> cases e <;> first | exact decide_eq_true rfl | exact decide_eq_false (fun z => nomatch z)
def wIsN (neg : Bool) (a : WE) : WE := fun sl P => a sl fun x => ∃ b, isN x = some b ∧ P (.val (.bl (if neg then !b else b)))
theorem ge_isN {a : Expr} {wa : WE} {j pos pos'} (ha : GE X a wa) : GE X (.Compare a [.Is] [.Constant .none j pos'] pos) (wIsN false wa) := ge_of (pe_cmp (pc_isN ha) (by rfl)) fun F D A H σ sl P Q S hw q =>
  ⟨F, D, A, sl, _, S, hw, fun v H1 x b1 ok hx => by
    obtain ⟨b, e, hp⟩ := hx
    rw [isN_ok ok e]
    exact q _ H1 (.val (.bl b)) b1 (Rep.bl b) hp⟩
theorem gt_isN {a : Expr} {wa : WE} {j pos pos'} (ha : GE X a wa) : GT X (.Compare a [.Is] [.Constant .none j pos'] pos) (wB (wIsN false wa)) := gt_of (pt_cmp (pc_isN ha) (by rfl)) fun F D A H σ sl P Q S hw q =>
  ⟨F, D, A, sl, _, S, hw, fun v H1 x b1 ok hx => by
    obtain ⟨b, e, c, e2, hp⟩ := hx
    cases e2
    rw [isN_ok ok e]
    exact ⟨b, rfl, q _ H1 b1 hp⟩⟩
theorem gt_notN {a : Expr} {wa : WE} {j pos pos'} (ha : GE X a wa) : GT X (.Compare a [.IsNot] [.Constant .none j pos'] pos) (wB (wIsN true wa)) := gt_of (pt_cmp (pc_notN ha) (by rfl)) fun F D A H σ sl P Q S hw q =>
  ⟨F, D, A, sl, _, S, hw, fun v H1 x b1 ok hx => by
    obtain ⟨b, e, c, e2, hp⟩ := hx
    cases e2
    rw [isN_ok ok e]
    exact ⟨!b, rfl, q _ H1 b1 hp⟩⟩
/-! ### and, or, not -/
def wAnd (t u : WT) : WT := fun sl P => t sl fun b => if b = true then u sl P else P false
def wOr (t u : WT) : WT := fun sl P => t sl fun b => if b = true then P true else u sl P
def wNot (t : WT) : WT := fun sl P => t sl fun b => P (!b)
theorem gw_or {a b : Expr} {rest : List Expr} {pos : Pos} {t u : WT} (ha : GT X a t) (hb : GW X (.BoolOp .Or (b :: rest) pos) u) : GW X (.BoolOp .Or (a :: b :: rest) pos) (wOr t u) := gw_of (pw_or ha hb) fun F D A H σ sl P Q S hw q =>
  ⟨F, D, A, sl, _, S, hw, fun c H1 b1 hx => by
    cases c with
    | true => exact q true H1 b1 hx
    | false => exact ⟨F, D, A, sl, _, S.beh b1, hx, fun d H2 b2 hp => q d H2 (b1.trans b2) hp⟩⟩
theorem gw_or1 {a : Expr} {pos : Pos} {t : WT} (ha : GT X a t) : GW X (.BoolOp .Or [a] pos) t := pw_or1 ha
theorem gt_not {a : Expr} {pos : Pos} {t : WT} (ha : GT X a t) : GT X (.UnaryOp .Not a pos) (wNot t) := gt_of (pt_not ha) fun F D A H σ sl P Q S hw q =>
  ⟨F, D, A, sl, _, S, hw, fun c H1 b1 hx => q (!c) H1 b1 hx⟩
/-- .. as values -/
def wAndV (a b : WE) : WE := fun sl P => a sl fun x => ∃ c, x = .val (.bl c) ∧ if c = true then b sl P else P (.val (.bl false))
def wOrV (a b : WE) : WE := fun sl P => a sl fun x => ∃ c, x = .val (.bl c) ∧ if c = true then P (.val (.bl true)) else b sl P
def wNotV (a : WE) : WE := fun sl P => a sl fun x => ∃ c, x = .val (.bl c) ∧ P (.val (.bl (!c)))
theorem ge_and {a b : Expr} {rest : List Expr} {pos : Pos} {t u : WE} (ha : GE X a t) (hb : GE X (.BoolOp .And (b :: rest) pos) u) : GE X (.BoolOp .And (a :: b :: rest) pos) (wAndV t u) := ge_of (pe_and ha hb) fun F D A H σ sl P Q S hw q =>
  ⟨F, D, A, sl, _, S, hw, fun v H1 x b1 ok hx => by
    obtain ⟨c, rfl, hp⟩ := hx
    cases ok
    refine ⟨c, rfl, ?_⟩
    cases c with
    | true => exact ⟨F, D, A, sl, _, S.beh b1, hp, fun d H2 x b2 ok hp => q d H2 x (b1.trans b2) ok hp⟩
    | false => exact q _ H1 (.val (.bl false)) b1 (Rep.bl false) hp⟩
theorem ge_or {a b : Expr} {rest : List Expr} {pos : Pos} {t u : WE} (ha : GE X a t) (hb : GE X (.BoolOp .Or (b :: rest) pos) u) : GE X (.BoolOp .Or (a :: b :: rest) pos) (wOrV t u) := ge_of (pe_or ha hb) fun F D A H σ sl P Q S hw q =>
  ⟨F, D, A, sl, _, S, hw, fun v H1 x b1 ok hx => by
    obtain ⟨c, rfl, hp⟩ := hx
    cases ok
    refine ⟨c, rfl, ?_⟩
    cases c with
    | true => exact q _ H1 (.val (.bl true)) b1 (Rep.bl true) hp
    | false => exact ⟨F, D, A, sl, _, S.beh b1, hp, fun d H2 x b2 ok hp => q d H2 x (b1.trans b2) ok hp⟩⟩
theorem ge_one {a : Expr} {op} {pos : Pos} {t : WE} (ha : GE X a t) : GE X (.BoolOp op [a] pos) t := pe_one ha
def wIfE (c : WT) (a b : WE) : WE := fun sl P => c sl fun k => if k = true then a sl P else b sl P
theorem ge_if {c a b : Expr} {pos : Pos} {w : WT} {t u : WE} (hc : GT X c w) (ha : GE X a t) (hb : GE X b u) : GE X (.IfExp c a b pos) (wIfE w t u) := ge_of (pe_ifExp hc ha hb) fun F D A H σ sl P Q S hw q =>
  ⟨F, D, A, sl, _, S, hw, fun c H1 b1 hx => by
    cases c with
    | true => exact ⟨F, D, A, sl, _, S.beh b1, hx, fun d H2 x b2 ok hp => q d H2 x (b1.trans b2) ok hp⟩
    | false => exact ⟨F, D, A, sl, _, S.beh b1, hx, fun d H2 x b2 ok hp => q d H2 x (b1.trans b2) ok hp⟩⟩
/-- truth of any value -/
def truT : T → Option Bool
  | .non => some false
  | .bl b => some b
  | .int i => some (i != 0)
  | .tup ts => some (!ts.isEmpty)
  | .lst ts => some (!ts.isEmpty)
  | .scr ts => some (!ts.isEmpty)
  | _ => none
theorem isEmpty_rep {A : Avoid} {H : Hp} {vs : List V} {ts : List T} (r : RepAll K A H vs ts) : (!ts.isEmpty) = !vs.isEmpty := by
  cases r <;> rfl
theorem truT_ok {A : Avoid} {H : Hp} {v : V} {t : T} {b : Bool} (r : RepS K A H v t) (e : truT t = some b) : TruV K v H b := by
  cases t with
  | non => rw [r.non]; cases e; rfl
  | bl c => rw [r.bl]; cases e; rfl
  | int i => rw [r.int]; cases e; rfl
  | str x => cases e
  | ty x => cases e
  | ins c d f => cases e
  | fn a => cases e
  | exc a d f t => cases e
  | tup ts => obtain ⟨a, vs, rfl, h, ra⟩ := r.tup; cases e; exact .inr (.inl ⟨vs, h, isEmpty_rep ra⟩)
  | lst ts => obtain ⟨a, vs, rfl, h, ra⟩ := r.lst; cases e; exact .inl ⟨vs, .inl (.inl h), isEmpty_rep ra⟩
  | scr ts => obtain ⟨a, vs, rfl, h, ra⟩ := r.scr; cases e; exact .inl ⟨vs, h, isEmpty_rep ra⟩
  | dct ks ts => cases e
def wTru (w : WE) : WT := fun sl P => w sl fun x => ∃ t b, x.tree = some t ∧ truT t = some b ∧ P b
theorem gt_tru {e : Expr} {w : WE} (h : GE X e w) (he : ∀ whole, isTrue e X.env whole = (do let v ← whole; standAt e.pos; holding [v] (truthy v)) := by intro _; rfl) : GT X e (wTru w) := gt_of (pt_truth h he) fun F D A H σ sl P Q S hw q =>
  ⟨F, D, A, sl, _, S, hw, fun v H1 x b1 ok hx => by
    obtain ⟨t, b, e1, e2, hp⟩ := hx
    exact ⟨b, truT_ok (ok.reads e1) e2, q b H1 b1 hp⟩⟩

/-! ### arguments, displays -/
def waNil : WA := fun _ P => P []
def waCons (a : WE) (r : WA) : WA := fun sl P => a sl fun x => r sl fun xs => P (x :: xs)
theorem ga_nil : GA X [] waNil := ga_of pa_nil fun F D A H σ sl P Q S hw q => q [] H [] (Beh.refl S) .nil hw
theorem ga_cons {e : Expr} {es : List Expr} {w : WE} {r : WA} (he : GE X e w) (hr : GA X es r) (hs : starEach (e :: es) X.env = (false, eval e X.env) :: starEach es X.env := by rfl) : GA X (e :: es) (waCons w r) := ga_of (pa_cons he hr hs) fun F D A H σ sl P Q S hw q =>
  ⟨F, D, A, sl, _, S, hw, fun v H1 x b1 ok hx => ⟨F, D, A, sl, _, S.beh b1, hx, fun vs H2 xs b2 oks hp => q _ H2 _ (b1.trans b2) (.cons (ok.mono S.dA b2) oks) hp⟩⟩
/-- all of them trees -/
def trees : List Sl → Option (List T)
  | [] => some []
  | .val t :: r => (match trees r with
    | some ts => some (t :: ts)
    | none => none)
  | _ :: _ => none
theorem trees_ok {D A0 A : Avoid} {H : Hp} : ∀ {vs : List V} {xs : List Sl} {ts : List T}, Paired (SlOk K D A0 A H) vs xs → trees xs = some ts → RepAll K A H vs ts
  | _, _, _, .nil, e => by cases e; exact .nil
  | _, x :: xs, ts, .cons h r, e => by
    cases x with
    | any => cases e
    | dice => cases e
    | ob l us => cases e
    | val t =>
      unfold trees at e
      cases e1 : trees xs with
      | none => rw [e1] at e; cases e
      | some us =>
        rw [e1] at e
        cases e
        exact .cons h (trees_ok r e1)
theorem sz_of {n : Nat} (h : n ≤ 1000000) : n ≤ sizeLine := Nat.le_trans h (by decide)
theorem sz_lt {n : Nat} (h : n < 1000000) : n < sizeLine := Nat.lt_of_lt_of_le h (by decide)
theorem fresh_notin {A : Avoid} {H : Hp} {p : Addr} (al : ∀ a ∈ A, H a ≠ none) (hp : H p = none) : p ∉ A := fun z => al p z hp
def wTup (a : WA) : WE := fun sl P => a sl fun xs => ∃ ts, trees xs = some ts ∧ ts.length ≤ 1000000 ∧ P (.val (.tup ts))
theorem ge_tup {es : List Expr} {x1 pos} {a : WA} (h : GA X es a) : GE X (.Tuple es x1 pos) (wTup a) := ge_of (pe_tup h) fun F D A H σ sl P Q S hw q =>
  ⟨F, D, A, sl, _, S, hw, fun vs H1 xs b1 oks hx => by
    obtain ⟨ts, e, hl, hp⟩ := hx
    have r := trees_ok oks e
    refine ⟨sz_of (by rw [r.length]; exact hl), fun p hpn => ?_⟩
    have S1 := S.beh b1
    have e2 : Ext [] H1 (upd H1 p (.tup vs)) := Ext.new hpn
    refine q _ _ (.val (.tup ts)) (b1.trans (Beh.of_ext S1 e2)) ?_ hp
    exact Rep.tup (fresh_notin S1.alive hpn) upd_same (r.mono (Ext.new hpn))⟩
/-! a fresh list -/
abbrev WL := List Sl → (List T → Prop) → Prop
def lOf (K : PySem.W.Frag) (w : WL) : TE := fun σ H Q => ∃ F D A sl P, Sta K F D A H σ sl ∧ w sl P ∧ ∀ p H' vs ts, Beh D H H' → H p = none → p ∉ A → H' p = some (.lst vs) → RepAll K (p :: A) H' vs ts → P ts → Q (.ref p) H'
abbrev GL (X : Cx) (e : Expr) (w : WL) : Prop := PE X e (lOf X.K w)
def SL (K : PySem.W.Frag) (t : TE) (w : WL) : Prop := ∀ F D A H σ sl P Q, Sta K F D A H σ sl → w sl P → (∀ p H' vs ts, Beh D H H' → H p = none → p ∉ A → H' p = some (.lst vs) → RepAll K (p :: A) H' vs ts → P ts → Q (.ref p) H') → t σ H Q
theorem gl_of {e : Expr} {t : TE} {w : WL} (h : PE X e t) (s : SL X.K t w) : GL X e w := ⟨fun pins st σ H Q I ⟨F, D, A, sl, P, S, hw, q⟩ => h.run pins st σ H Q I (s F D A H σ sl P Q S hw q)⟩
def wL (w : WL) : WE := fun sl P => w sl fun ts => P (.val (.lst ts))
theorem GL.ge {e : Expr} {w : WL} (h : GL X e w) : GE X e (wL w) := ge_of h fun F D A H σ sl P Q S hw q =>
  ⟨F, D, A, sl, _, S, hw, fun p H' vs ts b hp hA hH r hP => q _ _ (.val (.lst ts)) b (Rep.lst hA hH (r.sub fun a ha => List.mem_cons_of_mem _ ha)) hP⟩
theorem fresh_back {D : Avoid} {H H' : Hp} {p : Addr} (m : ∀ d ∈ D, MovAt H d) (e : Beh D H H') (h : H' p = none) : H p = none := by
  cases h1 : H p with
  | none => rfl
  | some o =>
    by_cases hd : p ∈ D
    · exact absurd h ((m p hd).keep (e.dice p hd)).here
    · rw [e.ext p o hd h1] at h
      cases h
def wLst (a : WA) : WL := fun sl P => a sl fun xs => ∃ ts, trees xs = some ts ∧ ts.length ≤ 1000000 ∧ P ts
theorem gl_lst {es : List Expr} {pos} {a : WA} (h : GA X es a) : GL X (.List es pos) (wLst a) := gl_of (pe_lst h) fun F D A H σ sl P Q S hw q =>
  ⟨F, D, A, sl, _, S, hw, fun vs H1 xs b1 oks hx => by
    obtain ⟨ts, e, hl, hp⟩ := hx
    have r := trees_ok oks e
    refine ⟨sz_of (by rw [r.length]; exact hl), fun p hpn => ?_⟩
    have S1 := S.beh b1
    have e2 : Ext [] H1 (upd H1 p (.lst vs)) := Ext.new hpn
    refine q _ _ _ ts (b1.trans (Beh.of_ext S1 e2)) (fresh_back S.dice b1 hpn) (fresh_notin S1.alive hpn) upd_same ?_ hp
    exact (r.more hpn).mono (Ext.new hpn)⟩
def wDct0 : WE := fun _ P => P (.val (.dct [] []))
theorem ge_dct0 {pos} : GE X (.Dict [] [] pos) wDct0 := ge_of pe_dnewK fun F D A H σ sl P Q S hw q => fun p hp => by
  have e2 : Ext [] H (upd H p (.dK [])) := Ext.new hp
  exact q _ _ (.val (.dct [] [])) (Beh.of_ext S e2) (Rep.dct (ks := []) (vs := []) (fresh_notin S.alive hp) (.inl upd_same) rfl .nil) hw
end
end Tr


set_option Elab.async false
set_option linter.all false
set_option maxRecDepth 100000
set_option maxHeartbeats 0
namespace Tr
open PySem PySem.Spec PyProof.Rows L2
variable [Tabl]
section
variable {X : Cx} {K : PySem.W.Frag}
/-! ### 6. operators on trees -/
def few (n : Nat) : Bool := decide (n ≤ 1000000)
theorem few_of {n : Nat} (h : few n = true) : n ≤ 1000000 := of_decide_eq_true h
def addT : T → T → Option T
  | .int i, .int j => some (.int (i + j))
  | .str x, .str y => if few (x.length + y.length) = true then some (.str (x ++ y)) else none
  | .tup xs, .tup ys => if few (xs.length + ys.length) = true then some (.tup (xs ++ ys)) else none
  | .lst xs, .lst ys => if few (xs.length + ys.length) = true then some (.lst (xs ++ ys)) else none
  | _, _ => none
def rAddS : R2 := fun x y H Q => ∃ i j, x = .str i ∧ y = .str j ∧ i.length + j.length ≤ sizeLine ∧ Q (.str (i ++ j)) H
def rAddA (K : PySem.W.Frag) : R2 := fun x y H Q => rI0 (fun i j => .int (i + j)) x y H Q ∨ (rCatA K x y H Q ∨ (rCat x y H Q ∨ rAddS x y H Q))
theorem op_addA : OpR X (binaryOp .Add) (rAddA X.K) := OpR.or op_add (OpR.or op_catA (OpR.or op_cat op_add_str))
theorem sop_add : SOp K (rAddA K) addT := fun A H u v x y z Q al ru rv e q => by
  cases x with
  | int i => cases y with
    | int j =>
      cases e
      exact .inl ⟨i, j, ru.int, rv.int, q _ _ (Ext.refl H) (.int _)⟩
    | _ => cases e
  | str i => cases y with
    | str j =>
      simp only [addT] at e
      split at e
      · rename_i hf
        cases e
        exact .inr (.inr (.inr ⟨i, j, ru.str, rv.str, Tr.sz_of (few_of hf), q _ _ (Ext.refl H) (.str _)⟩))
      · cases e
    | _ => cases e
  | tup xs => cases y with
    | tup ys =>
      simp only [addT] at e
      split at e
      · rename_i hf
        cases e
        have hf := few_of hf
        obtain ⟨a, vs, rfl, h1, r1⟩ := ru.tup
        obtain ⟨b, ws, rfl, h2, r2⟩ := rv.tup
        refine .inr (.inl ⟨a, b, vs, ws, rfl, rfl, h1, h2, Tr.sz_of (by rw [r1.length, r2.length]; exact hf), fun z => ?_, fun _ z => ?_, fun _ _ p hp => ?_⟩)
        · subst z
          cases r1
          cases rv with | of rv => exact q _ _ (Ext.refl H) rv
        · subst z
          cases r2
          rw [List.append_nil] at q
          cases ru with | of ru => exact q _ _ (Ext.refl H) ru
        · exact q _ _ (Ext.new hp) (.tup (fresh_notin al hp) upd_same ((r1.append r2).mono (Ext.new hp)))
      · cases e
    | _ => cases e
  | lst xs => cases y with
    | lst ys =>
      simp only [addT] at e
      split at e
      · rename_i hf
        cases e
        have hf := few_of hf
        obtain ⟨a, vs, rfl, h1, r1⟩ := ru.lst
        obtain ⟨b, ws, rfl, h2, r2⟩ := rv.lst
        exact .inr (.inr (.inl ⟨a, b, vs, ws, rfl, rfl, h1, h2, Tr.sz_of (by rw [r1.length, r2.length]; exact hf), fun p hp => q _ _ (Ext.new hp) (.lst (fresh_notin al hp) upd_same ((r1.append r2).mono (Ext.new hp)))⟩))
      · cases e
    | _ => cases e
  | _ => cases e
def subT : T → T → Option T
  | .int i, .int j => some (.int (i - j))
  | _, _ => none
theorem sop_sub : SOp K (rI0 fun i j => .int (i - j)) subT := fun A H u v x y z Q al ru rv e q => by
  cases x with
  | int i => cases y with
    | int j => cases e; exact ⟨i, j, ru.int, rv.int, q _ _ (Ext.refl H) (.int _)⟩
    | _ => cases e
  | _ => cases e
/-- the product's size -/
def wide (i j : Int) : Bool := (decide (i.natAbs < 2 ^ 64) || decide (j.natAbs < 2 ^ 64)) || decide (i.natAbs.log2 + j.natAbs.log2 < 1000000)
theorem wide_ok {i j : Int} (h : wide i j = true) : IntMulOk i j := by
  unfold wide at h
  rw [Bool.or_eq_true, Bool.or_eq_true] at h
  rcases h with (h | h) | h
  · have := of_decide_eq_true h
    exact CMul.ok (.inl (by omega))
  · have := of_decide_eq_true h
    exact CMul.ok (.inr (by omega))
  · exact CMulW.ok (of_decide_eq_true (p := i.natAbs.log2 + j.natAbs.log2 < 1000000) h)
theorem op_mulI {X : Cx} : OpR X (binaryOp .Mult) (rI IntMulOk fun i j => .int (i * j)) := opI fun _ _ _ _ _ _ _ hc q => mul_int q hc
def rMulS : R2 := fun x y H Q => ∃ z k, x = .str z ∧ y = .int k ∧ 0 ≤ k ∧ k ≤ 2000 ∧ z.length ≤ 1000 ∧ Q (.str (Txt.mul z k)) H
theorem op_mulS {X : Cx} : OpR X (binaryOp .Mult) rMulS := by
  intro pins s σ H x y v u Q I rx ry h
  obtain ⟨z, k, rfl, rfl, h0, h1, hz, q⟩ := h
  obtain ⟨t, rfl⟩ := rx
  obtain ⟨t', rfl⟩ := ry
  refine SB.mul ⟨by rw [decide_eq_false (by omega), decide_eq_false (by omega)] <;> rfl, fun h2 h3 => ?_, fun h2 h3 => ?_⟩ fun t' k' => ⟨.str _, H, I.tok _, ⟨_, rfl⟩, q⟩
  · have h4 : (2 ^ 63 - 1 : Int) / 2000 ≤ (2 ^ 63 - 1) / k := by
      refine Int.le_ediv_of_mul_le (by omega) ?_
      have a1 : (2 ^ 63 - 1 : Int) / 2000 * k ≤ (2 ^ 63 - 1) / 2000 * 2000 := Int.mul_le_mul_of_nonneg_left h1 (by decide)
      omega
    have h5 : (1000 : Int) ≤ (2 ^ 63 - 1) / 2000 := by decide
    omega
  · unfold Builtin.Str.tooLong
    have a1 : z.length * k.toNat ≤ 1000 * 2000 := Nat.mul_le_mul hz (by omega)
    simp only [decide_eq_false_iff_not, sizeLine_eq]
    omega
def mulT : T → T → Option T
  | .str z, .int k => if (decide (0 ≤ k) && (decide (k ≤ 2000) && decide (z.length ≤ 1000))) = true then some (.str (Txt.mul z k)) else none
  | .int i, .int j => if wide i j = true then some (.int (i * j)) else none
  | .tup xs, .int k => if xs = [] then none else if k = 1 then some (.tup xs) else if (decide (2 ≤ k) && (decide (k ≤ 1000) && decide (xs.length ≤ 1000))) = true then some (.tup (List.replicate k.toNat xs).flatten) else none
  | .lst xs, .int k => if (decide (0 ≤ k) && (decide (k ≤ 1000) && decide (xs.length ≤ 1000))) = true then some (.lst (List.replicate k.toNat xs).flatten) else none
  | _, _ => none
def rMulA (K : PySem.W.Frag) : R2 := fun x y H Q => rI IntMulOk (fun i j => .int (i * j)) x y H Q ∨ (rRep1 K x y H Q ∨ (rRepT K x y H Q ∨ (rRep x y H Q ∨ rMulS x y H Q)))
theorem op_mulA : OpR X (binaryOp .Mult) (rMulA X.K) := OpR.or op_mulI (OpR.or op_rep1 (OpR.or op_repT (OpR.or op_rep op_mulS)))
theorem sop_mul : SOp K (rMulA K) mulT := fun A H u v x y z Q al ru rv e q => by
  cases x with
  | str i => cases y with
    | int j =>
      simp only [mulT] at e
      split at e
      · rename_i hf
        cases e
        rw [Bool.and_eq_true, Bool.and_eq_true] at hf
        exact .inr (.inr (.inr (.inr ⟨i, j, ru.str, rv.int, of_decide_eq_true hf.1, of_decide_eq_true hf.2.1, of_decide_eq_true hf.2.2, q _ _ (Ext.refl H) (.str _)⟩)))
      · cases e
    | _ => cases e
  | int i => cases y with
    | int j =>
      simp only [mulT] at e
      split at e
      · rename_i hf
        cases e
        exact .inl ⟨i, j, ru.int, rv.int, wide_ok hf, q _ _ (Ext.refl H) (.int _)⟩
      · cases e
    | _ => cases e
  | tup xs => cases y with
    | int k =>
      simp only [mulT] at e
      obtain ⟨a, vs, rfl, h1, r1⟩ := ru.tup
      split at e
      · cases e
      · rename_i hne
        have hv : vs ≠ [] := fun z => hne (by subst z; cases r1; rfl)
        split at e
        · rename_i hk
          cases e
          subst hk
          cases ru with | of ru => exact .inr (.inl ⟨a, vs, rfl, rv.int, h1, q _ _ (Ext.refl H) ru⟩)
        · split at e
          · rename_i hk
            cases e
            rw [Bool.and_eq_true, Bool.and_eq_true] at hk
            exact .inr (.inr (.inl ⟨a, k, vs, rfl, rv.int, h1, hv, of_decide_eq_true hk.1, of_decide_eq_true hk.2.1, by rw [r1.length]; exact of_decide_eq_true hk.2.2, fun p hp => q _ _ (Ext.new hp) (.tup (fresh_notin al hp) upd_same ((r1.rep _).mono (Ext.new hp)))⟩))
          · cases e
    | _ => cases e
  | lst xs => cases y with
    | int k =>
      simp only [mulT] at e
      obtain ⟨a, vs, rfl, h1, r1⟩ := ru.lst
      split at e
      · rename_i hk
        cases e
        rw [Bool.and_eq_true, Bool.and_eq_true] at hk
        have k1 := of_decide_eq_true hk.1
        have k2 := of_decide_eq_true hk.2.1
        have k3 := of_decide_eq_true hk.2.2
        refine .inr (.inr (.inr (.inl ⟨a, k, vs, rfl, rv.int, h1, by omega, by omega, ?_, fun p hp => q _ _ (Ext.new hp) (.lst (fresh_notin al hp) upd_same ((r1.rep _).mono (Ext.new hp)))⟩)))
        rw [r1.length]
        exact Tr.sz_of (Nat.le_trans (Nat.mul_le_mul k3 (show k.toNat ≤ 1000 by omega)) (by decide))
      · cases e
    | _ => cases e
  | _ => cases e
def divOk (j : Int) : Bool := decide (0 < j) && decide (j.natAbs.log2 < 9000)
def divT : T → T → Option T
  | .int i, .int j => if divOk j = true then some (.int (i / j)) else none
  | _, _ => none
theorem sop_div : SOp K (rI CDivW fun i j => .int (i / j)) divT := fun A H u v x y z Q al ru rv e q => by
  cases x with
  | int i => cases y with
    | int j =>
      simp only [divT] at e
      split at e
      · rename_i hf
        cases e
        unfold divOk at hf
        rw [Bool.and_eq_true] at hf
        exact ⟨i, j, ru.int, rv.int, ⟨of_decide_eq_true hf.1, of_decide_eq_true hf.2⟩, q _ _ (Ext.refl H) (.int _)⟩
      · cases e
    | _ => cases e
  | _ => cases e
def modT : T → T → Option T
  | .int i, .int j => if decide (0 < j) = true then some (.int (i % j)) else none
  | _, _ => none
theorem sop_mod : SOp K (rI (fun _ j => 0 < j) fun i j => .int (i % j)) modT := fun A H u v x y z Q al ru rv e q => by
  cases x with
  | int i => cases y with
    | int j =>
      simp only [modT] at e
      split at e
      · rename_i hf
        cases e
        exact ⟨i, j, ru.int, rv.int, of_decide_eq_true hf, q _ _ (Ext.refl H) (.int _)⟩
      · cases e
    | _ => cases e
  | _ => cases e
/-- i ** j that the machine writes down -/
def powOk (i j : Int) : Bool := decide (0 ≤ j) && decide ((Builtin.Int.intBits i : Int) * j ≤ 2 ^ 27)
def CPowW (i j : Int) : Prop := 0 ≤ j ∧ (Builtin.Int.intBits i : Int) * j ≤ 2 ^ 27
theorem op_powW {X : Cx} : OpR X (binaryOp .Pow) (rI CPowW fun i j => .int (i ^ j.toNat)) := opI fun _ _ _ _ _ _ _ hc q => pow_int hc.1 hc.2 q
def powT : T → T → Option T
  | .int i, .int j => if powOk i j = true then some (.int (i ^ j.toNat)) else none
  | _, _ => none
theorem sop_pow : SOp K (rI CPowW fun i j => .int (i ^ j.toNat)) powT := fun A H u v x y z Q al ru rv e q => by
  cases x with
  | int i => cases y with
    | int j =>
      simp only [powT] at e
      split at e
      · rename_i hf
        cases e
        unfold powOk at hf
        rw [Bool.and_eq_true] at hf
        exact ⟨i, j, ru.int, rv.int, ⟨of_decide_eq_true hf.1, of_decide_eq_true hf.2⟩, q _ _ (Ext.refl H) (.int _)⟩
      · cases e
    | _ => cases e
  | _ => cases e
def ltT : T → T → Option T
  | .int i, .int j => some (.bl (decide (i < j)))
  | .str x, .str y => some (.bl (decide (x.cps.toList < y.cps.toList)))
  | _, _ => none
def leT : T → T → Option T
  | .int i, .int j => some (.bl (decide (i ≤ j)))
  | .str x, .str y => some (.bl (!decide (y.cps.toList < x.cps.toList)))
  | _, _ => none
def gtT : T → T → Option T
  | .int i, .int j => some (.bl (decide (j < i)))
  | .str x, .str y => some (.bl (decide (y.cps.toList < x.cps.toList)))
  | _, _ => none
def geT : T → T → Option T
  | .int i, .int j => some (.bl (decide (j ≤ i)))
  | .str x, .str y => some (.bl (!decide (x.cps.toList < y.cps.toList)))
  | _, _ => none
def rLtA : R2 := fun x y H Q => rI0 (fun i j => .bl (decide (i < j))) x y H Q ∨ (∃ i j, x = .str i ∧ y = .str j ∧ Q (.bl (decide (i.cps.toList < j.cps.toList))) H)
def rGtA : R2 := fun x y H Q => rI0 (fun i j => .bl (decide (j < i))) x y H Q ∨ (∃ i j, x = .str i ∧ y = .str j ∧ Q (.bl (decide (j.cps.toList < i.cps.toList))) H)
theorem op_ltA : OpR X (compareOp .Lt) rLtA := OpR.or op_lt op_lt_str
theorem op_gtA : OpR X (compareOp .Gt) rGtA := OpR.or op_gt op_gt_str
theorem sop_lt : SOp K rLtA ltT := fun A H u v x y z Q al ru rv e q => by
  cases x with
  | int i => cases y with
    | int j => cases e; exact .inl ⟨i, j, ru.int, rv.int, q _ _ (Ext.refl H) (.bl _)⟩
    | _ => cases e
  | str i => cases y with
    | str j => cases e; exact .inr ⟨i, j, ru.str, rv.str, q _ _ (Ext.refl H) (.bl _)⟩
    | _ => cases e
  | _ => cases e
theorem sop_gt : SOp K rGtA gtT := fun A H u v x y z Q al ru rv e q => by
  cases x with
  | int i => cases y with
    | int j => cases e; exact .inl ⟨i, j, ru.int, rv.int, q _ _ (Ext.refl H) (.bl _)⟩
    | _ => cases e
  | str i => cases y with
    | str j => cases e; exact .inr ⟨i, j, ru.str, rv.str, q _ _ (Ext.refl H) (.bl _)⟩
    | _ => cases e
  | _ => cases e
def rLeA : R2 := fun x y H Q => rI0 (fun i j => .bl (decide (i ≤ j))) x y H Q ∨ (∃ i j, x = .str i ∧ y = .str j ∧ Q (.bl (!decide (j.cps.toList < i.cps.toList))) H)
def rGeA : R2 := fun x y H Q => rI0 (fun i j => .bl (decide (j ≤ i))) x y H Q ∨ (∃ i j, x = .str i ∧ y = .str j ∧ Q (.bl (!decide (i.cps.toList < j.cps.toList))) H)
theorem op_leA : OpR X (compareOp .LtE) rLeA := OpR.or op_le op_le_str
theorem sop_le : SOp K rLeA leT := fun A H u v x y z Q al ru rv e q => by
  cases x with
  | int i => cases y with
    | int j => cases e; exact .inl ⟨i, j, ru.int, rv.int, q _ _ (Ext.refl H) (.bl _)⟩
    | _ => cases e
  | str i => cases y with
    | str j => cases e; exact .inr ⟨i, j, ru.str, rv.str, q _ _ (Ext.refl H) (.bl _)⟩
    | _ => cases e
  | _ => cases e
/-! == and != of data at any depth -/
mutual
def dat : T → Option PyData
  | .non => some .none
  | .bl b => some (.bool b)
  | .int i => some (.int i)
  | .str x => some (.str x)
  | .tup ts => (datAll ts).map .tuple
  | .lst ts => (datAll ts).map .list
  | .scr ts => (datAll ts).map .list
  | _ => none
def datAll : List T → Option (List PyData)
  | [] => some []
  | t :: r => (dat t).bind fun d => (datAll r).map fun ds => d :: ds
end
mutual
theorem dat_ok {A : Avoid} {H : Hp} : ∀ {v : V} {t : T} {d : PyData}, Rep K A H v t → dat t = some d → Dp K H v d
  | _, _, _, .non, e => by simp only [dat] at e; cases e; exact .non
  | _, _, _, .bl b, e => by simp only [dat] at e; cases e; exact .bl b
  | _, _, _, .int i, e => by simp only [dat] at e; cases e; exact .int i
  | _, _, _, .str x, e => by simp only [dat] at e; cases e; exact .str x
  | _, _, _, .ty n, e => by simp only [dat] at e; cases e
  | _, _, _, .tup n h r, e => by
    simp only [dat] at e
    obtain ⟨ds, e1, rfl⟩ := Option.map_eq_some_iff.mp e
    exact .tup (.inl (.inl h)) (datAll_ok r e1)
  | _, _, _, .tupK h r, e => by
    simp only [dat] at e
    obtain ⟨ds, e1, rfl⟩ := Option.map_eq_some_iff.mp e
    exact .tup (.inr h) (datAll_ok r e1)
  | _, _, _, .lst n h r, e => by
    simp only [dat] at e
    obtain ⟨ds, e1, rfl⟩ := Option.map_eq_some_iff.mp e
    exact .lst (.inl (.inl h)) (datAll_ok r e1)
  | _, _, _, .scr n h r, e => by
    simp only [dat] at e
    obtain ⟨ds, e1, rfl⟩ := Option.map_eq_some_iff.mp e
    exact .lst (.inl (.inr ⟨_, h⟩)) (datAll_ok r e1)
  | _, _, _, .scrK h r, e => by
    simp only [dat] at e
    obtain ⟨ds, e1, rfl⟩ := Option.map_eq_some_iff.mp e
    exact .lst (.inr h) (datAll_ok r e1)
  | _, _, _, .dct n h l r, e => by simp only [dat] at e; cases e
  | _, _, _, .ins n m h k l r, e => by simp only [dat] at e; cases e
  | _, _, _, .fn a, e => by simp only [dat] at e; cases e
  | _, _, _, .exc n h r, e => by simp only [dat] at e; cases e
theorem datAll_ok {A : Avoid} {H : Hp} : ∀ {vs : List V} {ts : List T} {ds : List PyData}, RepAll K A H vs ts → datAll ts = some ds → DpAll K H vs ds
  | _, _, _, .nil, e => by simp only [datAll] at e; cases e; exact .nil
  | _, _, _, .cons h r, e => by
    simp only [datAll] at e
    obtain ⟨d, e1, e2⟩ := Option.bind_eq_some_iff.mp e
    obtain ⟨ds, e3, rfl⟩ := Option.map_eq_some_iff.mp e2
    exact .cons (dat_ok h e1) (datAll_ok r e3)
end
theorem datS_ok {A : Avoid} {H : Hp} {v : V} {t : T} {d : PyData} (r : RepS K A H v t) (e : dat t = some d) : Dp K H v d := by
  cases r with
  | of r => exact dat_ok r e
  | own h r =>
    simp only [dat] at e
    obtain ⟨ds, e1, rfl⟩ := Option.map_eq_some_iff.mp e
    exact .lst (.inl (.inl h)) (datAll_ok r e1)
  | ownd h l r => simp only [dat] at e; cases e
/-- a tree that can be compared -/
def shp (t : T) : Bool := match dat t with
  | some d => SeqAt.shaped d
  | none => false
def eqB (s t : T) : Bool := match dat s, dat t with
  | some d, some e => PyData.eqv d e
  | _, _ => false
def eqT (s t : T) : Option T := if (shp s && shp t) = true then some (.bl (eqB s t)) else none
def neT (s t : T) : Option T := if (shp s && shp t) = true then some (.bl (!eqB s t)) else none
theorem shp_of {t : T} (h : shp t = true) : ∃ d, dat t = some d ∧ SeqAt.shaped d = true := by
  unfold shp at h
  cases e : dat t with
  | none => rw [e] at h; cases h
  | some d => rw [e] at h; exact ⟨d, rfl, h⟩
theorem sop_eq : SOp K (rEqD K) eqT := fun A H u v x y z Q al ru rv e q => by
  unfold eqT at e
  split at e
  · rename_i hs
    rw [Bool.and_eq_true] at hs
    obtain ⟨d, e1, s1⟩ := shp_of hs.1
    obtain ⟨d2, e2, s2⟩ := shp_of hs.2
    cases e
    refine ⟨d, d2, datS_ok ru e1, datS_ok rv e2, s1, s2, ?_⟩
    have h := q (.bl (eqB x y)) H (Ext.refl H) (.bl _)
    unfold eqB at h
    rw [e1, e2] at h
    exact h
  · cases e
theorem sop_ne : SOp K (rNeD K) neT := fun A H u v x y z Q al ru rv e q => by
  unfold neT at e
  split at e
  · rename_i hs
    rw [Bool.and_eq_true] at hs
    obtain ⟨d, e1, s1⟩ := shp_of hs.1
    obtain ⟨d2, e2, s2⟩ := shp_of hs.2
    cases e
    refine ⟨d, d2, datS_ok ru e1, datS_ok rv e2, s1, s2, ?_⟩
    have h := q (.bl (!eqB x y)) H (Ext.refl H) (.bl _)
    unfold eqB at h
    rw [e1, e2] at h
    exact h
  · cases e
/-! in, not in: flat items -/
def flatT : T → Bool
  | .non => true | .bl _ => true | .int _ => true | .str _ => true | _ => false
def eqF : T → T → Bool
  | .non, .non => true
  | .bl a, .bl b => a == b
  | .bl a, .int b => (if a then 1 else 0) == b
  | .int a, .bl b => a == (if b then 1 else 0)
  | .int a, .int b => a == b
  | .str a, .str b => a == b
  | _, _ => false
def inT (x : T) (t : T) : Option Bool := match t.seq with
  | some ts => if (flatT x && ts.all flatT) = true then some (ts.any fun y => eqF y x) else none
  | none => none
def isIn (neg : Bool) (x t : T) : Option T := match inT x t with
  | some b => some (.bl (if neg = true then !b else b))
  | none => none
end
end Tr


set_option Elab.async false
set_option linter.all false
set_option maxRecDepth 100000
set_option maxHeartbeats 0
namespace Tr
open PySem PySem.Spec PyProof.Rows L2
variable [Tabl]
section
variable {X : Cx} {K : PySem.W.Frag}
/-! ### 7. items, slices, built-in functions, calls -/
def ixT : T → T → Option T
  | .tup ts, .int i => atI ts i
  | .lst ts, .int i => atI ts i
  | .scr ts, .int i => atI ts i
  | .str x, .int i => if few x.length = true then (atI x.cps.toList i).map fun c => .str ⟨#[c]⟩ else none
  | _, _ => none
theorem atI_rep {A : Avoid} {H : Hp} {vs : List V} {ts : List T} {i : Int} {t : T} (r : RepAll K A H vs ts) (e : atI ts i = some t) : ∃ v, atI vs i = some v ∧ Rep K A H v t := by
  unfold atI at e ⊢
  rw [r.length]
  cases h : ixN ts.length i with
  | none => rw [h] at e; cases e
  | some j =>
    rw [h] at e
    exact r.get e
theorem sop_ix : SOp K (rIx K) ixT := fun A H u v x y z Q al ru rv e q => by
  cases x with
  | tup ts => cases y with
    | int i =>
      obtain ⟨a, vs, rfl, h, r⟩ := ru.tup
      obtain ⟨w, e1, rw'⟩ := atI_rep r e
      exact .inr (.inl ⟨a, vs, i, w, rfl, rv.int, h, e1, q _ _ (Ext.refl H) rw'⟩)
    | _ => cases e
  | lst ts => cases y with
    | int i =>
      obtain ⟨a, vs, rfl, h, r⟩ := ru.lst
      obtain ⟨w, e1, rw'⟩ := atI_rep r e
      exact .inl ⟨a, vs, i, w, rfl, rv.int, .inl (.inl h), e1, q _ _ (Ext.refl H) rw'⟩
    | _ => cases e
  | scr ts => cases y with
    | int i =>
      obtain ⟨a, vs, rfl, h, r⟩ := ru.scr
      obtain ⟨w, e1, rw'⟩ := atI_rep r e
      exact .inl ⟨a, vs, i, w, rfl, rv.int, h, e1, q _ _ (Ext.refl H) rw'⟩
    | _ => cases e
  | str x => cases y with
    | int i =>
      simp only [ixT] at e
      split at e
      · rename_i hf
        obtain ⟨c, e1, rfl⟩ := Option.map_eq_some_iff.mp e
        exact .inr (.inr ⟨x, i, c, ru.str, rv.int, Tr.sz_of (few_of hf), e1, q _ _ (Ext.refl H) (.str _)⟩)
      · cases e
    | _ => cases e
  | _ => cases e
theorem ge_ix {a b : Expr} {wa wb : WE} {pos : Pos} (ha : GE X a wa) (hb : GE X b wb) (hs : PlainIx b := by exact fun _ _ => rfl) : GE X (.Subscript a b pos) (wOp ixT wa wb) := ge_of (pe_ix ix_seq ha hb hs) (se_op sop_ix)
/-- a cut -/
def cutT {α : Type} (xs : List α) (lo hi : Option Int) : List α := (xs.drop (HT.sIx xs.length 0 lo)).take (HT.sIx xs.length xs.length hi - HT.sIx xs.length 0 lo)
def slT : T → Option Int → Option Int → Option T
  | .tup ts, lo, hi => some (.tup (cutT ts lo hi))
  | .lst ts, lo, hi => some (.lst (cutT ts lo hi))
  | .scr ts, lo, hi => some (.lst (cutT ts lo hi))
  | .str x, lo, hi => if few x.length = true then some (.str (cutS x lo hi)) else none
  | _, _, _ => none
abbrev WO := List Sl → (Option Int → Prop) → Prop
def woNone : WO := fun _ P => P none
def woSome (w : WE) : WO := fun sl P => w sl fun x => ∃ i, x = .val (.int i) ∧ P (some i)
def oOf (K : PySem.W.Frag) (w : WO) : TO := fun σ H Q => ∃ F D A sl P, Sta K F D A H σ sl ∧ w sl P ∧ ∀ o H', Beh D H H' → P o → Q o H'
abbrev GO (X : Cx) (e : Option Expr) (w : WO) : Prop := PO X e (oOf X.K w)
theorem go_none : GO X none woNone := ⟨fun pins st σ H Q I ⟨F, D, A, sl, P, S, hw, q⟩ => po_none.run pins st σ H Q I (q none H (Beh.refl S) hw)⟩
theorem go_some {e : Expr} {w : WE} (h : GE X e w) : GO X (some e) (woSome w) := ⟨fun pins st σ H Q I ⟨F, D, A, sl, P, S, hw, q⟩ => (po_some h).run pins st σ H Q I ⟨F, D, A, sl, _, S, hw, fun v H1 x b1 ok hx => by
  obtain ⟨i, rfl, hp⟩ := hx
  cases ok
  exact ⟨i, rfl, q _ H1 b1 hp⟩⟩⟩
def rSl4 (K : PySem.W.Frag) : V → Option Int → Option Int → Hp → VK → Prop := fun x lo hi H Q => rSlA K x lo hi H Q ∨ (rSlL K x lo hi H Q ∨ rSlS x lo hi H Q)
theorem sl_4 : SlR X (rSl4 X.K) := SlR.or sl_tupA (SlR.or sl_list sl_str)
def wSl (a : WE) (l h : WO) : WE := fun sl P => a sl fun x => l sl fun lo => h sl fun hi => ∃ s z, x.tree = some s ∧ slT s lo hi = some z ∧ P (.val z)
theorem cut_rep {A : Avoid} {H : Hp} {vs : List V} {ts : List T} (lo hi : Option Int) (r : RepAll K A H vs ts) : RepAll K A H (cutV vs lo hi) (cutT ts lo hi) := by
  unfold cutV cutT
  rw [r.length]
  exact (r.drop _).take _
theorem cut_all {α : Type} {ts : List α} {lo hi : Option Int} (h : HT.sIx ts.length 0 lo = 0 ∧ HT.sIx ts.length ts.length hi = ts.length) : cutT ts lo hi = ts := by
  unfold cutT
  rw [h.1, h.2, List.drop_zero, Nat.sub_zero, List.take_length]
theorem ge_sl {a : Expr} {lo hi : Option Expr} {wa : WE} {wl wh : WO} {p2 pos : Pos} (ha : GE X a wa) (hl : GO X lo wl) (hh : GO X hi wh) : GE X (.Subscript a (.Slice lo hi none p2) pos) (wSl wa wl wh) := ge_of (pe_slice sl_4 ha hl hh) fun F D A H σ sl P Q S hw q =>
  ⟨F, D, A, sl, _, S, hw, fun u H1 x b1 ok1 hx => ⟨F, D, A, sl, _, S.beh b1, hx, fun lo H2 b2 hx2 => ⟨F, D, A, sl, _, (S.beh b1).beh b2, hx2, fun hi H3 b3 hx3 => by
    obtain ⟨s, z, e1, e2, hp⟩ := hx3
    have S3 := ((S.beh b1).beh b2).beh b3
    have ru := ((ok1.mono S.dA b2).mono S.dA b3).reads e1
    have fin : ∀ w H', Ext [] H3 H' → Rep X.K A H' w z → Q w H' := fun w H' e r => q w H' (.val z) (((b1.trans b2).trans b3).trans (Beh.of_ext S3 e)) r hp
    cases s with
    | tup ts =>
      cases e2
      obtain ⟨a, vs, rfl, h, r⟩ := ru.tup
      refine .inl ⟨a, vs, rfl, h, fun hz => ?_, fun hz p hpn => ?_⟩
      · rw [r.length] at hz
        rw [cut_all hz] at fin
        cases ru with | of ru => exact fin _ _ (Ext.refl H3) ru
      · exact fin _ _ (Ext.new hpn) (.tup (fresh_notin S3.alive hpn) upd_same ((cut_rep _ _ r).mono (Ext.new hpn)))
    | lst ts =>
      cases e2
      obtain ⟨a, vs, rfl, h, r⟩ := ru.lst
      exact .inr (.inl ⟨a, vs, rfl, .inl (.inl h), fun p hpn => fin _ _ (Ext.new hpn) (.lst (fresh_notin S3.alive hpn) upd_same ((cut_rep _ _ r).mono (Ext.new hpn)))⟩)
    | scr ts =>
      cases e2
      obtain ⟨a, vs, rfl, h, r⟩ := ru.scr
      exact .inr (.inl ⟨a, vs, rfl, h, fun p hpn => fin _ _ (Ext.new hpn) (.lst (fresh_notin S3.alive hpn) upd_same ((cut_rep _ _ r).mono (Ext.new hpn)))⟩)
    | str y =>
      simp only [slT] at e2
      split at e2
      · rename_i hf
        cases e2
        exact .inr (.inr ⟨y, ru.str, Tr.sz_of (few_of hf), fin _ _ (Ext.refl H3) (.str _)⟩)
      · cases e2
    | _ => cases e2⟩⟩⟩

/-! built-in functions -/
def treesR : List Sl → Option (List T)
  | [] => some []
  | x :: r => (match x.tree, treesR r with
    | some t, some ts => some (t :: ts)
    | _, _ => none)
abbrev RepSs (K : PySem.W.Frag) (A : Avoid) (H : Hp) : List V → List T → Prop := Paired (RepS K A H)
theorem treesR_ok {D A0 A : Avoid} {H : Hp} : ∀ {vs : List V} {xs : List Sl} {ts : List T}, Paired (SlOk K D A0 A H) vs xs → treesR xs = some ts → RepSs K A H vs ts
  | _, _, _, .nil, e => by cases e; exact .nil
  | _, x :: xs, ts, .cons h r, e => by
    unfold treesR at e
    cases e1 : x.tree with
    | none => rw [e1] at e; cases e
    | some t =>
      cases e2 : treesR xs with
      | none => rw [e1, e2] at e; cases e
      | some us =>
        rw [e1, e2] at e
        cases e
        exact .cons (h.reads e1) (treesR_ok r e2)
def SCall (K : PySem.W.Frag) (r : List V → Hp → VK → Prop) (f : List T → Option T) : Prop := ∀ (A : Avoid) (H : Hp) (vs : List V) (ts : List T) (z : T) (Q : VK), (∀ a ∈ A, H a ≠ none) → RepSs K A H vs ts → f ts = some z → (∀ w H', Ext [] H H' → Rep K A H' w z → Q w H') → r vs H Q
def wCB (f : List T → Option T) (a : WA) : WE := fun sl P => a sl fun xs => ∃ ts z, treesR xs = some ts ∧ f ts = some z ∧ P (.val z)
theorem se_cb {r : List V → Hp → VK → Prop} {f : List T → Option T} {a : WA} (h : SCall K r f) : SE K (tCB r (aOf K a)) (wCB f a) := fun F D A H σ sl P Q S hw q =>
  ⟨F, D, A, sl, _, S, hw, fun vs H1 xs b1 oks hx => by
    obtain ⟨ts, z, e1, e2, hp⟩ := hx
    have S1 := S.beh b1
    exact h A H1 vs ts z Q S1.alive (treesR_ok oks e1) e2 fun w H' e r => q w H' (.val z) (b1.trans (Beh.of_ext S1 e)) r hp⟩
theorem ge_cb {id : String} {r : List V → Hp → VK → Prop} {f : List T → Option T} {x : Str} {e : Expr} {es : List Expr} {a : WA} {p pos : Pos} (hc : CallR X (.builtin id) r) (h : SCall X.K r f) (hg : Gl X x) (hm : X.mg x = none) (hv : bootBuiltins x = some (.builtin id)) (ha : GA X (e :: es) a)
    (hn : x ≠ "__name__" := by decide) (hdb : (x == ("__debug__" : Str)) = false := by decide) (he : starEach (e :: es) X.env = (false, eval e X.env) :: starEach es X.env := by rfl) (hpl : (backTo pos (starEach es X.env)).any (·.1) = false := by rfl) :
    GE X (.Call (.Name x p) (e :: es) [] pos) (wCB f a) := ge_of (pe_callB hc hg hm hv ha hn hdb he hpl) (se_cb h)
theorem ge_cty {id : String} {r : List V → Hp → VK → Prop} {f : List T → Option T} {x : Str} {e : Expr} {es : List Expr} {a : WA} {p pos : Pos} (hc : CallR X (.type id) r) (h : SCall X.K r f) (hg : Gl X x) (hm : X.mg x = none) (hv : bootBuiltins x = some (.type id)) (ha : GA X (e :: es) a)
    (hn : x ≠ "__name__" := by decide) (hdb : (x == ("__debug__" : Str)) = false := by decide) (he : starEach (e :: es) X.env = (false, eval e X.env) :: starEach es X.env := by rfl) (hpl : (backTo pos (starEach es X.env)).any (·.1) = false := by rfl) :
    GE X (.Call (.Name x p) (e :: es) [] pos) (wCB f a) := ge_of (pe_callTy hc hg hm hv ha hn hdb he hpl) (se_cb h)
def lenT : List T → Option T
  | [.tup ts] => some (.int ts.length)
  | [.lst ts] => some (.int ts.length)
  | [.scr ts] => some (.int ts.length)
  | [.str x] => if few x.length = true then some (.int x.length) else none
  | _ => none
theorem one_of {P : V → T → Prop} {vs : List V} {t : T} (h : Paired P vs [t]) : ∃ v, vs = [v] ∧ P v t := by
  cases h with | cons h r => cases r; exact ⟨_, rfl, h⟩
theorem two_of {P : V → T → Prop} {vs : List V} {t u : T} (h : Paired P vs [t, u]) : ∃ v w, vs = [v, w] ∧ P v t ∧ P w u := by
  cases h with | cons h r => cases r with | cons h2 r => cases r; exact ⟨_, _, rfl, h, h2⟩
abbrev rLenA (K : PySem.W.Frag) : List V → Hp → VK → Prop := fun xs H Q => ∃ x n, xs = [x] ∧ LenV K x H n ∧ Q (.int n) H
theorem sc_len : SCall K (rLenA K) lenT := fun A H vs ts z Q al r e q => by
  match ts, r, e with
  | [.tup ts], r, e =>
    obtain ⟨v, rfl, rv⟩ := one_of r
    cases e
    obtain ⟨a, vs, rfl, h, r⟩ := rv.tup
    exact ⟨_, vs.length, rfl, .inr ⟨vs, h, rfl⟩, by rw [r.length]; exact q _ _ (Ext.refl H) (.int _)⟩
  | [.lst ts], r, e =>
    obtain ⟨v, rfl, rv⟩ := one_of r
    cases e
    obtain ⟨a, vs, rfl, h, r⟩ := rv.lst
    exact ⟨_, vs.length, rfl, .inl ⟨vs, .inl (.inl h), rfl⟩, by rw [r.length]; exact q _ _ (Ext.refl H) (.int _)⟩
  | [.scr ts], r, e =>
    obtain ⟨v, rfl, rv⟩ := one_of r
    cases e
    obtain ⟨a, vs, rfl, h, r⟩ := rv.scr
    exact ⟨_, vs.length, rfl, .inl ⟨vs, h, rfl⟩, by rw [r.length]; exact q _ _ (Ext.refl H) (.int _)⟩
  | [.str x], r, e =>
    obtain ⟨v, rfl, rv⟩ := one_of r
    simp only [lenT] at e
    split at e
    · rename_i hf
      cases e
      exact ⟨_, x.length, rfl, by rw [rv.str]; exact ⟨Tr.sz_of (few_of hf), rfl⟩, q _ _ (Ext.refl H) (.int _)⟩
    · cases e
def absT : List T → Option T
  | [.int i] => some (.int (if i < 0 then -i else i))
  | _ => none
theorem sc_abs : SCall K (fun xs H Q => ∃ i, xs = [.int i] ∧ Q (.int (if i < 0 then -i else i)) H) absT := fun A H vs ts z Q al r e q => by
  match ts, r, e with
  | [.int i], r, e =>
    obtain ⟨v, rfl, rv⟩ := one_of r
    cases e
    exact ⟨i, by rw [rv.int], q _ _ (Ext.refl H) (.int _)⟩
def max2T : List T → Option T
  | [.int i, .int j] => some (.int (if j > i then j else i))
  | _ => none
theorem sc_max2 : SCall K (fun xs H Q => ∃ i j, xs = [.int i, .int j] ∧ Q (.int (if j > i then j else i)) H) max2T := fun A H vs ts z Q al r e q => by
  match ts, r, e with
  | [.int i, .int j], r, e =>
    obtain ⟨v, w, rfl, rv, r2⟩ := two_of r
    cases e
    exact ⟨i, j, by rw [rv.int, r2.int], q _ _ (Ext.refl H) (.int _)⟩
def min2T : List T → Option T
  | [.int i, .int j] => some (.int (if j < i then j else i))
  | _ => none
theorem sc_min2 : SCall K (fun xs H Q => ∃ i j, xs = [.int i, .int j] ∧ Q (.int (if j < i then j else i)) H) min2T := fun A H vs ts z Q al r e q => by
  match ts, r, e with
  | [.int i, .int j], r, e =>
    obtain ⟨v, w, rfl, rv, r2⟩ := two_of r
    cases e
    exact ⟨i, j, by rw [rv.int, r2.int], q _ _ (Ext.refl H) (.int _)⟩
def intT : List T → Option T
  | [.int i] => some (.int i)
  | [.bl b] => some (.int (if b then 1 else 0))
  | _ => none
theorem sc_int : SCall K (fun xs H Q => (∃ i, xs = [.int i] ∧ Q (.int i) H) ∨ ∃ k, xs = [.bl k] ∧ Q (.int (if k then 1 else 0)) H) intT := fun A H vs ts z Q al r e q => by
  match ts, r, e with
  | [.int i], r, e =>
    obtain ⟨v, rfl, rv⟩ := one_of r
    cases e
    exact .inl ⟨i, by rw [rv.int], q _ _ (Ext.refl H) (.int _)⟩
  | [.bl i], r, e =>
    obtain ⟨v, rfl, rv⟩ := one_of r
    cases e
    exact .inr ⟨i, by rw [rv.bl], q _ _ (Ext.refl H) (.int _)⟩
def reprT : List T → Option T
  | [.bl b] => some (.str (if b then "True" else "False"))
  | _ => none
def intsOf : List T → Option (List Int)
  | [] => some []
  | .int i :: r => (match intsOf r with
    | some ns => some (i :: ns)
    | none => none)
  | _ :: _ => none
theorem intsOf_map (ns : List Int) : intsOf (ns.map T.int) = some ns := by
  induction ns with
  | nil => rfl
  | cons n r ih =>
    show (match intsOf (r.map T.int) with
      | some ns => some (n :: ns)
      | none => none) = _
    rw [ih]
def blsOf : List T → Option (List Bool)
  | [] => some []
  | .bl i :: r => (match blsOf r with
    | some ns => some (i :: ns)
    | none => none)
  | _ :: _ => none
theorem blsOf_eq : ∀ {ts : List T} {ns : List Bool}, blsOf ts = some ns → ts = ns.map T.bl
  | [], _, e => by cases e; rfl
  | t :: r, ns, e => by
    cases t with
    | bl i =>
      unfold blsOf at e
      cases h : blsOf r with
      | none => rw [h] at e; cases e
      | some ms =>
        rw [h] at e
        cases e
        rw [blsOf_eq h]
        rfl
    | _ => cases e
theorem blsOf_map (ns : List Bool) : blsOf (ns.map T.bl) = some ns := by
  induction ns with
  | nil => rfl
  | cons n r ih =>
    show (match blsOf (r.map T.bl) with
      | some ns => some (n :: ns)
      | none => none) = _
    rw [ih]
def sumT : List T → Option T
  | [.lst ts] => (intsOf ts).map fun ns => .int ns.sum
  | _ => none
def allT : List T → Option T
  | [.lst ts] => (blsOf ts).map fun ns => .bl (ns.all id)
  | _ => none
theorem sc_all : SCall K (rAll K) allT := fun A H vs ts z Q al r e q => by
  match ts, r, e with
  | [.lst ts], r, e =>
    obtain ⟨v, rfl, rv⟩ := one_of r
    obtain ⟨ns, e1, rfl⟩ := Option.map_eq_some_iff.mp (show (blsOf ts).map (fun ns => T.bl (ns.all id)) = some z from e)
    obtain ⟨a, vs, rfl, h, r⟩ := rv.lst
    rw [blsOf_eq e1] at r
    rw [r.bls] at h
    exact ⟨a, ns, rfl, .inl (.inl h), q _ _ (Ext.refl H) (.bl _)⟩
def anyT : List T → Option T
  | [.lst ts] => (blsOf ts).map fun ns => .bl (ns.any id)
  | _ => none
/-- isinstance -/
def tyT : T → String
  | .non => "NoneType" | .bl _ => "bool" | .int _ => "int" | .str _ => "str" | .tup _ => "tuple" | .lst _ => "list" | .scr _ => "list" | .dct _ _ => "dict" | _ => ""
def isiT : List T → Option T
  | [.ins _ _ _, _] => none
  | [.ty _, _] => none
  | [.fn _, _] => none
  | [.exc _ _ _ _, _] => none
  | [x, .ty n] => (kitB (tyT x) n).map fun b => .bl b
  | _ => none
theorem ty_ok {A : Avoid} {H : Hp} {v : V} {t : T} (r : RepS K A H v t) (h1 : ∀ C ns ts, t ≠ .ins C ns ts) (h2 : ∀ n, t ≠ .ty n) (h3 : tyT t ≠ "") : TyX K H v (.type (tyT t)) := by
  cases r with
  | own h r => exact .base (.lst h)
  | ownd h l r => exact .base (.dK h)
  | of r =>
    cases r with
    | non => exact .base .non
    | bl b => exact .base (.bl b)
    | int i => exact .base (.int i)
    | str x => exact .base (.str x)
    | ty n => exact absurd rfl (h2 n)
    | tup n h r => exact .base (.tup h)
    | tupK h r => obtain ⟨o, its, n, h1, h2, _⟩ := h; exact .kTuple h1 h2
    | lst n h r => exact .base (.lst h)
    | scr n h r => exact .base (.frz h)
    | scrK h r => obtain ⟨o, its, n, h1, h2, _⟩ := h; exact .kList h1 h2
    | dct n h l r => exact h.elim (fun h => .base (.dK h)) fun ⟨_, h⟩ => .fDict h
    | ins n m h k l r => exact absurd rfl (h1 _ _ _)
    | fn a => exact absurd rfl h3
    | exc n h r => exact absurd rfl h3
theorem isi_eq {x : T} {n : String} {z : T} (e : isiT [x, .ty n] = some z) : (∀ C ns ts, x ≠ .ins C ns ts) ∧ (∀ n, x ≠ .ty n) ∧ tyT x ≠ "" ∧ ∃ b, kitB (tyT x) n = some b ∧ z = .bl b := by
  have h1 : ∀ C ns ts, x ≠ .ins C ns ts := fun C ns ts z => by subst z; cases e
  have h2 : ∀ n, x ≠ .ty n := fun n z => by subst z; cases e
  have h3 : tyT x ≠ "" := by cases x <;> first | exact absurd rfl (h1 _ _ _) | exact absurd rfl (h2 _) | (intro z; simp [tyT] at z; done) | (intro z; cases e)
  have e' : (kitB (tyT x) n).map (fun b => T.bl b) = some z := by
    cases x <;> first | exact e | exact absurd rfl (h1 _ _ _) | exact absurd rfl (h2 _) | exact absurd rfl h3
  obtain ⟨b, e1, rfl⟩ := Option.map_eq_some_iff.mp e'
  exact ⟨h1, h2, h3, b, e1, rfl⟩
theorem sc_isi : SCall K (rIsi K) isiT := fun A H vs ts z Q al r e q => by
  match ts, r, e with
  | [], _, e => cases e
  | [x], _, e => cases x <;> cases e
  | [x, .ty n], r, e =>
    obtain ⟨v, w, rfl, rv, r2⟩ := two_of r
    obtain ⟨h1, h2, h3, b, e1, rfl⟩ := isi_eq e
    refine ⟨v, w, .type (tyT x), .type n, b, rfl, ?_, ty_ok rv h1 h2 h3, kit_ty e1, q _ _ (Ext.refl H) (.bl _)⟩
    rw [r2.ty]
    exact .ty n
  | [x, .non], _, e => cases x <;> cases e
  | [x, .bl _], _, e => cases x <;> cases e
  | [x, .int _], _, e => cases x <;> cases e
  | [x, .str _], _, e => cases x <;> cases e
  | [x, .tup _], _, e => cases x <;> cases e
  | [x, .lst _], _, e => cases x <;> cases e
  | [x, .scr _], _, e => cases x <;> cases e
  | [x, .dct _ _], _, e => cases x <;> cases e
  | [x, .ins _ _ _], _, e => cases x <;> cases e
  | [x, .fn _], _, e => cases x <;> cases e
  | [x, .exc _ _ _ _], _, e => cases x <;> cases e
  | x :: y :: w :: us, _, e => cases x <;> cases y <;> cases e
/-- tuple(x) of a list, of a tuple -/
def tupleT : List T → Option T
  | [.tup ts] => some (.tup ts)
  | [.lst ts] => some (.tup ts)
  | [.scr ts] => some (.tup ts)
  | _ => none
abbrev rTupA (K : PySem.W.Frag) : List V → Hp → VK → Prop := fun xs H Q => ∃ p ys, xs = [.ref p] ∧ ((SqL K H p ys ∧ ∀ l, H l = none → Q (.ref l) (upd H l (.tup ys))) ∨ (SqT K H p ys ∧ Q (.ref p) H))
theorem sc_tuple : SCall K (rTupA K) tupleT := fun A H vs ts z Q al r e q => by
  match ts, r, e with
  | [.tup ts], r, e =>
    obtain ⟨v, rfl, rv⟩ := one_of r
    cases e
    obtain ⟨a, vs, rfl, h, r1⟩ := rv.tup
    cases rv with | of r => exact ⟨a, vs, rfl, .inr ⟨h, q _ _ (Ext.refl H) r⟩⟩
  | [.lst ts], r, e =>
    obtain ⟨v, rfl, rv⟩ := one_of r
    cases e
    obtain ⟨a, vs, rfl, h, r1⟩ := rv.lst
    exact ⟨a, vs, rfl, .inl ⟨.inl (.inl h), fun l hl => q _ _ (Ext.new hl) (.tup (fresh_notin al hl) upd_same (r1.mono (Ext.new hl)))⟩⟩
  | [.scr ts], r, e =>
    obtain ⟨v, rfl, rv⟩ := one_of r
    cases e
    obtain ⟨a, vs, rfl, h, r1⟩ := rv.scr
    exact ⟨a, vs, rfl, .inl ⟨h, fun l hl => q _ _ (Ext.new hl) (.tup (fresh_notin al hl) upd_same (r1.mono (Ext.new hl)))⟩⟩
/-- list(x), new -/
abbrev rLstA (K : PySem.W.Frag) : List V → Hp → VK → Prop := fun xs H Q => ∃ p ys, xs = [.ref p] ∧ (SqL K H p ys ∨ SqT K H p ys) ∧ ∀ l, H l = none → Q (.ref l) (upd H l (.lst ys))
def wLstOf (a : WA) : WL := fun sl P => a sl fun xs => ∃ x t ts, xs = [x] ∧ x.tree = some t ∧ t.seq = some ts ∧ P ts
theorem gl_list {x : Str} {e : Expr} {a : WA} {p pos : Pos} (hg : Gl X x) (hm : X.mg x = none) (hv : bootBuiltins x = some (.type "list")) (ha : GA X [e] a)
    (hn : x ≠ "__name__" := by decide) (hdb : (x == ("__debug__" : Str)) = false := by decide) (he : starEach [e] X.env = (false, eval e X.env) :: starEach [] X.env := by rfl) (hpl : (backTo pos (starEach [] X.env)).any (·.1) = false := by rfl) :
    GL X (.Call (.Name x p) [e] [] pos) (wLstOf a) := gl_of (pe_callTy call_list_of hg hm hv ha hn hdb he hpl) fun F D A H σ sl P Q S hw q =>
  ⟨F, D, A, sl, _, S, hw, fun vs H1 xs b1 oks hx => by
    obtain ⟨x, t, ts, rfl, e1, e2, hp⟩ := hx
    have S1 := S.beh b1
    cases oks with
    | cons ok r =>
      cases r
      obtain ⟨a, vs, rfl, h, r⟩ := (ok.reads e1).seq e2
      exact ⟨a, vs, rfl, h, fun l hl => q l _ vs ts (b1.trans (Beh.of_ext S1 (Ext.new hl))) (fresh_back S.dice b1 hl) (fresh_notin S1.alive hl) upd_same ((r.more hl).mono (Ext.new hl)) hp⟩⟩

/-- -a -/
def negT : T → Option T
  | .int i => some (.int (-i))
  | _ => none
def wUn (f : T → Option T) (a : WE) : WE := fun sl P => a sl fun x => ∃ s z, x.tree = some s ∧ f s = some z ∧ P (.val z)
theorem ge_neg {a : Expr} {wa : WE} {pos : Pos} (ha : GE X a wa) : GE X (.UnaryOp .USub a pos) (wUn negT wa) := ge_of (pe_un un_neg ha) fun F D A H σ sl P Q S hw q =>
  ⟨F, D, A, sl, _, S, hw, fun v H1 x b1 ok hx => by
    obtain ⟨s, z, e1, e2, hp⟩ := hx
    have r := ok.reads e1
    cases s with
    | int i => cases e2; exact ⟨i, r.int, q _ H1 (.val (.int (-i))) b1 (Rep.int _) hp⟩
    | _ => cases e2⟩
/-- a new list of two -/
def wCatL (a b : WE) : WL := fun sl P => a sl fun x => b sl fun y => ∃ xs ys, x.tree = some (.lst xs) ∧ y.tree = some (.lst ys) ∧ few (xs.length + ys.length) = true ∧ P (xs ++ ys)
/-- the greatest, the least of a list of whole numbers -/
def wMaxL (w : WA) : WE := fun sl P => w sl fun xs => ∃ (x : Sl) (ns : List Int), xs = [x] ∧ x.tree = some (.lst (ns.map T.int)) ∧ 0 < ns.length ∧ ∀ m, m ∈ ns → (∀ y, y ∈ ns → y ≤ m) → P (.val (.int m))
/-! a def of one's own -/
def ArgOk (K : PySem.W.Frag) (D A : Avoid) (H : Hp) (v : V) : Sl → Prop
  | .val t => Rep K A H v t
  | .dice => ∃ d, v = .ref d ∧ d ∈ D ∧ DiceAt H d
  | _ => False
def isArg : Sl → Bool
  | .val _ => true
  | .dice => true
  | _ => false
def RetOk (K : PySem.W.Frag) (A : Avoid) (H : Hp) (v : V) : Sl → Prop
  | .val t => Rep K A H v t
  | _ => False
def spT (K : PySem.W.Frag) (wf : WF) : Sp := fun vs H Q _ => ∃ D A xs P, (∀ d ∈ D, MovAt H d) ∧ (∀ d ∈ D, d ∈ A) ∧ Liv D A H ∧ Paired (ArgOk K D A H) vs xs ∧ wf xs P ∧ ∀ v H' x, Beh D H H' → RetOk K A H' v x → P x → Q v H'
def wCall (wf : WF) (dts : List T) (a : WA) : WE := fun sl P => a sl fun xs => xs.all isArg = true ∧ wf (xs ++ dts.map Sl.val) P
theorem args_ok {D A0 A : Avoid} {H : Hp} : ∀ {vs : List V} {xs : List Sl}, Paired (SlOk K D A0 A H) vs xs → xs.all isArg = true → Paired (ArgOk K D A H) vs xs
  | _, _, .nil, _ => .nil
  | _, x :: xs, .cons h r, e => by
    rw [List.all_cons, Bool.and_eq_true] at e
    refine .cons ?_ (args_ok r e.2)
    cases x with
    | val t => exact h
    | dice => exact h
    | any => cases e.1
    | ob l ts => cases e.1
inductive CTs : List V → List T → Prop
  | nil : CTs [] []
  | cons {v : V} {t : T} {vs : List V} {ts : List T} : CT v t → CTs vs ts → CTs (v :: vs) (t :: ts)
theorem CTs.args {D A : Avoid} {H : Hp} : ∀ {vs : List V} {ts : List T}, CTs vs ts → Paired (ArgOk K D A H) vs (ts.map Sl.val)
  | _, _, .nil => .nil
  | _, _, .cons h r => .cons (show ArgOk K D A H _ (.val _) from h.rep) (CTs.args r)
theorem Paired.app {α β : Type} {R : α → β → Prop} : ∀ {xs xs' : List α} {ys ys' : List β}, Paired R xs ys → Paired R xs' ys' → Paired R (xs ++ xs') (ys ++ ys')
  | _, _, _, _, .nil, s => s
  | _, _, _, _, .cons h r, s => .cons h (Paired.app r s)
theorem se_call {wf : WF} {dvs : List V} {dts : List T} {a : WA} {E : XK} (hd : CTs dvs dts) : SE K (tCall (spT K wf) dvs E (aOf K a)) (wCall wf dts a) := fun F D A H σ sl P Q S hw q =>
  ⟨F, D, A, sl, _, S, hw, fun vs H1 xs b1 oks hx => by
    obtain ⟨e1, hp⟩ := hx
    have S1 := S.beh b1
    refine ⟨D, A, _, P, S1.dice, S1.dA, S1.liv, Paired.app (args_ok oks e1) hd.args, hp, fun v H' x b2 ok hx => q v H' x (b1.trans b2) ?_ hx⟩
    cases x with
    | val t => exact ok
    | _ => exact ok.elim⟩
theorem ge_call {k : Nat} {f : Addr} {fd : FuncData} {ps : List Str} {wf : WF} {dvs : List V} {ds : List Value} {dts : List T} {x : Str} {e : Expr} {es : List Expr} {a : WA} {p pos : Pos}
    (F : FnOk X.prog X.w X.K X.mg X.base CX0 k f fd ps (spT X.K wf)) (hr : Room k X.A) (hg : Gl X x) (hm : X.mg x = some (.ref f)) (hk : PySem.W.keepIn X.K (.ref f) = true) (hb : Binds X.K fd ps ds) (hd : Vals dvs ds) (hc : CTs dvs dts)
    (ha : GA X (e :: es) a) (hdb : (x == ("__debug__" : Str)) = false := by decide) (he : starEach (e :: es) X.env = (false, eval e X.env) :: starEach es X.env := by rfl) (hpl : (backTo pos (starEach es X.env)).any (·.1) = false := by rfl) :
    GE X (.Call (.Name x p) (e :: es) [] pos) (wCall wf dts a) := ge_of (pe_call F hr hg hm hk hb hd pass0 ha hdb he hpl) (se_call hc)
theorem ge_call0 {k : Nat} {f : Addr} {fd : FuncData} {ps : List Str} {wf : WF} {dvs : List V} {ds : List Value} {dts : List T} {x : Str} {p pos : Pos}
    (F : FnOk X.prog X.w X.K X.mg X.base CX0 k f fd ps (spT X.K wf)) (hr : Room k X.A) (hg : Gl X x) (hm : X.mg x = some (.ref f)) (hk : PySem.W.keepIn X.K (.ref f) = true) (hb : Binds X.K fd ps ds) (hd : Vals dvs ds) (hc : CTs dvs dts)
    (hdb : (x == ("__debug__" : Str)) = false := by decide) :
    GE X (.Call (.Name x p) [] [] pos) (wCall wf dts waNil) := ge_of (pe_call0 F hr hg hm hk hb hd pass0 hdb) fun F D A H σ sl P Q S hw q => by
      obtain ⟨e1, hp⟩ := hw
      refine ⟨D, A, _, P, S.dice, S.dA, S.liv, hc.args, hp, fun v H' x b2 ok hx => q v H' x b2 ?_ hx⟩
      cases x with
      | val t => exact ok
      | _ => exact ok.elim
end
end Tr


set_option Elab.async false
set_option linter.all false
set_option maxRecDepth 100000
set_option maxHeartbeats 0
namespace Tr
open PySem PySem.Spec PyProof.Rows L2
variable [Tabl]
section
variable {X : Cx} {K : PySem.W.Frag}
/-! ### 8. the state changes: a slot is set, forgotten; a new object of one's own; one's own object is written -/
theorem set_own {sl : List Sl} {i j : Nat} {x : Sl} {l : Addr} {ts : OwnT} (h : (sl.set i x)[j]? = some (Sl.ob l ts)) : (i = j ∧ x = .ob l ts) ∨ (i ≠ j ∧ sl[j]? = some (Sl.ob l ts)) := by
  by_cases e : i = j
  · subst e
    by_cases hl : i < sl.length
    · rw [List.getElem?_set_self hl] at h
      exact .inl ⟨rfl, Option.some.inj h⟩
    · rw [List.getElem?_eq_none (by rw [List.length_set]; omega)] at h
      cases h
  · rw [List.getElem?_set_ne e] at h
    exact .inr ⟨e, h⟩
theorem Dist.set {sl : List Sl} {i : Nat} {x : Sl} (d : Dist sl) (hx : ∀ l ts, x ≠ .ob l ts) : Dist (sl.set i x) := fun a b l l' ts ts' h1 h2 n => by
  rcases set_own h1 with ⟨_, e⟩ | ⟨_, e⟩
  · exact absurd e (hx _ _)
  · rcases set_own h2 with ⟨_, e'⟩ | ⟨_, e'⟩
    · exact absurd e' (hx _ _)
    · exact d a b l l' ts ts' e e' n
theorem Dist.setOwn {sl : List Sl} {i : Nat} {l : Addr} {ts : OwnT} (d : Dist sl) (no : ∀ (j : Nat) (l' : Addr) (ts' : OwnT), j ≠ i → sl[j]? = some (Sl.ob l' ts') → l' ≠ l) : Dist (sl.set i (.ob l ts)) := fun a b l1 l2 t1 t2 h1 h2 n => by
  rcases set_own h1 with ⟨rfl, e⟩ | ⟨n1, e⟩
  · cases e
    rcases set_own h2 with ⟨rfl, e'⟩ | ⟨n2, e'⟩
    · exact absurd rfl n
    · exact (no _ _ _ (fun z => n2 z.symm) e').symm
  · rcases set_own h2 with ⟨rfl, e'⟩ | ⟨n2, e'⟩
    · cases e'
      exact no _ _ _ (fun z => n1 z.symm) e
    · exact d a b _ _ _ _ e e' n
variable {F : Fx} {D A : Avoid} {H H' : Hp} {σ : L2.St} {sl : List Sl} {v : V} {x : Sl} {i : Nat}
theorem Sta.set (S : Sta K F D A H σ sl) (ok : SlOk K D F.A0 A H v x) (hx : ∀ l ts, x ≠ .ob l ts) : Sta K F D A H (σ.set i (some v)) (sl.set i x) :=
  { S with slots := Paired.setP (.inr ⟨v, rfl, ok⟩) i S.slots, dist := S.dist.set hx }
theorem paired_set_right {α β : Type} {R : α → β → Prop} {y : β} : ∀ {xs : List α} {ys : List β} (i : Nat), Paired R xs ys → (∀ x, xs[i]? = some x → R x y) → Paired R xs (ys.set i y)
  | _, _, _, .nil, _ => .nil
  | _, _, 0, .cons _ r, h => .cons (h _ rfl) r
  | _, _, n + 1, .cons q r, h => .cons q (paired_set_right n r fun x e => h x (by simpa using e))
/-- a slot is forgotten -/
theorem Sta.forget (S : Sta K F D A H σ sl) (i : Nat) : Sta K F D A H σ (sl.set i .any) :=
  { S with slots := paired_set_right i S.slots fun _ _ => .inl rfl, dist := S.dist.set fun _ _ z => nomatch z }
theorem Sta.wipe1 (S : Sta K F D A H σ sl) (i : Nat) : Sta K F D A H (σ.set i none) (sl.set i .any) :=
  { S with slots := Paired.setP (.inl rfl) i S.slots, dist := S.dist.set fun _ _ z => nomatch z }
def wipeS (sl : List Sl) : List Nat → List Sl
  | [] => sl
  | v :: vs => (wipeS sl vs).set v .any
theorem Sta.wipe (S : Sta K F D A H σ sl) : ∀ vs : List Nat, Sta K F D A H (L2.wipe σ vs) (wipeS sl vs)
  | [] => S
  | v :: vs => (Sta.wipe S vs).wipe1 v
theorem Sta.fresh0 (S : Sta K F D A H σ sl) {p : Addr} (hp : H p = none) : F.H0 p = none := by
  cases e : F.H0 p with
  | none => rfl
  | some o =>
    by_cases hd : p ∈ F.D0
    · exact absurd hp (S.dice p (S.dsub p hd)).here
    · rw [S.ext p o hd e] at hp; cases hp
/-- a new object that may be changed -/
theorem Sta.grow (S : Sta K F D A H σ sl) {p : Addr} {o : HO} (hp : H p = none) : Sta K F D (p :: A) (upd H p o) σ sl where
  dice := fun d hd => (S.dice d hd).keep (Keep.new hp)
  keep := fun d hd => (S.keep d hd).trans (Keep.new hp)
  tabs := S.tabs
  dA := fun d hd => List.mem_cons_of_mem _ (S.dA d hd)
  sub := fun a ha => List.mem_cons_of_mem _ (S.sub a ha)
  alive := fun a ha => by
    by_cases e : a = p
    · subst e; rw [upd_same]; exact fun z => nomatch z
    · rw [upd_ne e]
      rcases List.mem_cons.mp ha with z | z
      · exact absurd z e
      · exact S.alive a z
  base := fun a ha => by
    rcases List.mem_cons.mp ha with z | z
    · subst z; exact .inr (S.fresh0 hp)
    · exact S.base a z
  dbase := S.dbase
  dsub := S.dsub
  ext := fun a u n q => by
    have h := S.ext a u n q
    rw [upd_ne (ne_of_none h hp)]
    exact h
  slots := Paired.imp (fun o x q => by
    rcases q with q | ⟨v, q1, q2⟩
    · exact .inl q
    · refine .inr ⟨v, q1, ?_⟩
      cases x with
      | any => trivial
      | val t => exact Rep.mono (Ext.new hp) (Rep.more hp q2)
      | dice =>
        obtain ⟨d, g1, g2, g3⟩ := q2
        exact ⟨d, g1, g2, (Keep.new hp).1 g3⟩
      | ob l ts =>
        obtain ⟨h1, h2, h3, h4, h5⟩ := q2
        exact ⟨h1, List.mem_cons_of_mem _ h2, h3, h4, h5.map (fun u q => by rw [upd_ne (ne_of_none q hp)]; exact q) fun _ _ r => (r.more hp).mono (Ext.new hp)⟩) S.slots
  dist := S.dist
  gh := fun q hq => ((S.gh q hq).more hp).mono (Ext.new hp)
  lk := fun q hq => ⟨fun z => by
    rcases List.mem_cons.mp z with z | z
    · have e := (S.lk q hq).2
      rw [z, hp] at e
      cases e
    · exact (S.lk q hq).1 z, Ext.new (A := []) hp q.1 _ (fun z => (nomatch z)) (S.lk q hq).2⟩
/-- an object of one's own that no slot names is written -/
theorem Sta.write (S : Sta K F D A H σ sl) {l : Addr} {o : HO} (h1 : l ∈ A) (h2 : l ∉ F.A0) (h3 : l ∉ D) (no : ∀ (j : Nat) (l' : Addr) (ts : OwnT), sl[j]? = some (Sl.ob l' ts) → l' ≠ l) (hx : ∀ φ, H l ≠ some (.ext φ)) : Sta K F D A (upd H l o) σ sl where
  dice := fun d hd => (S.dice d hd).keep (Keep.upd (fun z => h3 (by rw [← z]; exact hd)) hx)
  keep := fun d hd => (S.keep d hd).trans (Keep.upd (fun z => h3 (by rw [← z]; exact S.dsub d hd)) hx)
  tabs := S.tabs
  dA := S.dA
  sub := S.sub
  alive := fun a ha => by
    by_cases e : a = l
    · subst e; rw [upd_same]; exact fun z => nomatch z
    · rw [upd_ne e]; exact S.alive a ha
  base := S.base
  dbase := S.dbase
  dsub := S.dsub
  ext := fun a u n q => by
    have h := S.ext a u n q
    have e : a ≠ l := fun z => by
      subst z
      rcases S.base a h1 with z | z
      · exact h2 z
      · rw [z] at q; cases q
    rw [upd_ne e]
    exact h
  slots := by
    have all : ∀ {τ : L2.St} {ss : List Sl}, Slots K D F.A0 A H τ ss → (∀ (j : Nat) (l' : Addr) (ts : OwnT), ss[j]? = some (Sl.ob l' ts) → l' ≠ l) → Slots K D F.A0 A (upd H l o) τ ss := by
      intro τ ss r
      induction r with
      | nil => exact fun _ => .nil
      | @cons a b as bs q r ih =>
        intro no
        refine .cons ?_ (ih fun j l' ts e => no (j + 1) l' ts (by simpa using e))
        rcases q with q | ⟨v, q1, q2⟩
        · exact .inl q
        · refine .inr ⟨v, q1, ?_⟩
          cases b with
          | any => trivial
          | val t => exact Rep.mono (Ext.mut h1) q2
          | dice =>
            obtain ⟨d, g1, g2, g3⟩ := q2
            exact ⟨d, g1, g2, (Keep.upd (fun z => h3 (by rw [← z]; exact g2)) hx).1 g3⟩
          | ob l' ts =>
            obtain ⟨g1, g2, g3, g4, g5⟩ := q2
            exact ⟨g1, g2, g3, g4, g5.map (fun u q => by rw [upd_ne (no 0 l' ts rfl)]; exact q) fun _ _ r => r.mono (Ext.mut h1)⟩
    exact all S.slots no
  dist := S.dist
  gh := fun q hq => (S.gh q hq).mono (Ext.mut h1)
  lk := fun q hq => ⟨(S.lk q hq).1, Ext.mut h1 q.1 _ (S.lk q hq).1 (S.lk q hq).2⟩
/-- a slot holds an object of one's own -/
theorem Sta.putO (S : Sta K F D A H σ sl) {l : Addr} {o : OwnT} (hσ : ∀ o, σ[i]? = some o → o = some (.ref l)) (h1 : l ∈ A) (h2 : l ∉ F.A0) (h3 : l ∉ D) (hl : OwnAt K A H l o)
    (no : ∀ (j : Nat) (l' : Addr) (ts' : OwnT), j ≠ i → sl[j]? = some (Sl.ob l' ts') → l' ≠ l) : Sta K F D A H σ (sl.set i (.ob l o)) :=
  { S with
    slots := paired_set_right i S.slots fun o e => .inr ⟨.ref l, hσ o e, rfl, h1, h2, h3, hl⟩
    dist := S.dist.setOwn no }
theorem Sta.put (S : Sta K F D A H σ sl) {l : Addr} {vs : List V} {ts : List T} (hσ : ∀ o, σ[i]? = some o → o = some (.ref l)) (h1 : l ∈ A) (h2 : l ∉ F.A0) (h3 : l ∉ D) (hl : H l = some (.lst vs)) (r : RepAll K A H vs ts)
    (no : ∀ (j : Nat) (l' : Addr) (ts' : OwnT), j ≠ i → sl[j]? = some (Sl.ob l' ts') → l' ≠ l) : Sta K F D A H σ (sl.set i (.own l ts)) := S.putO (o := .lst ts) hσ h1 h2 h3 ⟨vs, hl, r⟩ no
/-- an object of one's own in the slot i is changed -/
theorem Sta.growO (S : Sta K F D A H σ sl) {l : Addr} {o o' : OwnT} {u : HO} (hi : sl[i]? = some (.ob l o)) (ha : OwnAt K A (upd H l u) l o') : Sta K F D A (upd H l u) σ (sl.set i (.ob l o')) := by
  obtain ⟨v, hv, rfl, h1, h2, h3, own⟩ := S.get hi (fun z => nomatch z)
  have no1 : ∀ (j : Nat) (l' : Addr) (ts' : OwnT), (sl.set i .any)[j]? = some (Sl.ob l' ts') → l' ≠ l := fun j l' ts' e => by
    rcases set_own e with ⟨_, z⟩ | ⟨n, z⟩
    · cases z
    · exact S.dist j i l' l ts' o z hi (fun z => n z.symm)
  have S1 := (S.forget i).write (o := u) h1 h2 h3 no1 own.noext
  have S2 := S1.putO (i := i) (l := l) (o := o') (fun o e => by rw [hv] at e; exact (Option.some.inj e).symm) h1 h2 h3 ha (fun j l' ts' _ e => no1 j l' ts' e)
  rw [List.set_set] at S2
  exact S2
/-- l.append(v), l in the slot i -/
theorem Sta.grow1 (S : Sta K F D A H σ sl) {l : Addr} {vs : List V} {ts us : List T} {ws : List V} (hi : sl[i]? = some (.own l ts)) (hn : H l = some (.lst vs)) (r : RepAll K A H ws us) : Sta K F D A (upd H l (.lst ws)) σ (sl.set i (.own l us)) := by
  obtain ⟨v, hv, rfl, h1, h2, h3, _⟩ := S.get hi (fun z => nomatch z)
  exact S.growO hi ⟨ws, upd_same, r.mono (Ext.mut h1)⟩

/-! ### 9. what is walked -/
/-- pairs (number, item) -/
def enT : Nat → List T → List T
  | _, [] => []
  | k, t :: ts => .tup [.int (k : Nat), t] :: enT (k + 1) ts
theorem enT_length : ∀ (k : Nat) (ts : List T), (enT k ts).length = ts.length
  | _, [] => rfl
  | k, t :: ts => congrArg (· + 1) (enT_length (k + 1) ts)
theorem enT_get : ∀ (k : Nat) (ts : List T) (i : Nat), (enT k ts)[i]? = (ts[i]?).map fun t => T.tup [.int ((k + i : Nat) : Int), t]
  | _, [], i => by simp [enT]
  | k, t :: ts, 0 => by simp [enT]
  | k, t :: ts, i + 1 => by
    rw [enT, List.getElem?_cons_succ, List.getElem?_cons_succ, enT_get (k + 1) ts i]
    rw [show k + 1 + i = k + (i + 1) by omega]
/-- the signs of a text -/
def sgnT (x : Str) : List T := x.cps.toList.map fun c => .str ⟨#[c]⟩
/-- a key as a tree -/
def keyW : Key → T
  | .inl i => .int i
  | .inr z => .str z
theorem keyW_rep {K : PySem.W.Frag} {A : Avoid} {H : Hp} : ∀ k : Key, Rep K A H (kV k) (keyW k)
  | .inl i => .int i
  | .inr z => .str z
inductive ItOk (K : PySem.W.Frag) (A : Avoid) (H : Hp) : It → List T → Prop
  | lst {a : Addr} {ts : List T} : Rep K A H (.ref a) (.lst ts) → ItOk K A H (Itl K a) ts
  | scr {a : Addr} {ts : List T} : Rep K A H (.ref a) (.scr ts) → ItOk K A H (Itl K a) ts
  | tup {a : Addr} {ts : List T} : Rep K A H (.ref a) (.tup ts) → ItOk K A H (Itt K a) ts
  | rng {lo : Int} {n : Nat} : ItOk K A H (Itr lo n) ((List.range n).map fun i => .int (lo + (i : Nat)))
  | rngD {lo : Int} {n : Nat} : ItOk K A H (Itc lo (-1) n) ((List.range n).map fun i => .int (lo - (i : Nat)))
  | zipM {a b : Addr} {ts us : List T} : Rep K A H (.ref a) (.lst ts) → Rep K A H (.ref b) (.tup us) → ItOk K A H (Zp.ItM K a b) (List.zipWith (fun x y => T.tup [x, y]) ts us)
  | enL {a : Addr} {ts : List T} : Rep K A H (.ref a) (.lst ts) → ItOk K A H (Ite K a) (enT 0 ts)
  | enT {a : Addr} {ts : List T} : Rep K A H (.ref a) (.tup ts) → ItOk K A H (En.ItT K a) (enT 0 ts)
  | sgn {x : Str} : ItOk K A H (Its x) (sgnT x)
  | zipL {a b : Addr} {ts us : List T} : Rep K A H (.ref a) (.lst ts) → Rep K A H (.ref b) (.lst us) → ItOk K A H (Itz K a b) (List.zipWith (fun x y => T.tup [x, y]) ts us)
  | zipT {a b : Addr} {ts us : List T} : Rep K A H (.ref a) (.tup ts) → Rep K A H (.ref b) (.tup us) → ItOk K A H (RZ.ItzT K a b) (List.zipWith (fun x y => T.tup [x, y]) ts us)
  | itm {d : Addr} {o : Obj} {ks : List Key} {vs : List V} {ts : List T} : d ∉ A → H d = some (.frz o (.dK (ks.zip vs))) → ks.length = vs.length → RepAll K A H vs ts → ItOk K A H (Iti d o (ks.zip vs)) (List.zipWith (fun k t => T.tup [keyW k, t]) ks ts)
  | key {d : Addr} {o : Obj} {ks : List Key} {vs : List V} : d ∉ A → H d = some (.frz o (.dK (ks.zip vs))) → ks.length = vs.length → ItOk K A H (Itk d o (ks.zip vs)) (ks.map keyW)
abbrev WI := List Sl → (List T → Prop) → Prop
def iOf (K : PySem.W.Frag) (w : WI) : TI := fun σ H R => ∃ F D A sl P, Sta K F D A H σ sl ∧ w sl P ∧ ∀ J H' ts, Beh D H H' → ItOk K A H' J ts → P ts → R J H'
abbrev GI (X : Cx) (tg iter : Expr) (w : WI) : Prop := PI X tg iter (iOf X.K w)
def iSeq (K : PySem.W.Frag) (te : TE) : TI := fun σ H R => te σ H fun x H1 => ∃ a, x = .ref a ∧ ((∃ xs, SqL K H1 a xs) ∧ R (Itl K a) H1 ∨ (∃ xs, SqT K H1 a xs) ∧ R (Itt K a) H1)
theorem pi_seq {tg l : Expr} {tl : TE} (hl : PE X l tl) : PI X tg l (iSeq X.K tl) := by
  refine ⟨fun pins s σ H R I h => ?_⟩
  refine thn (hl.run pins s σ H _ I h) fun v s1 ⟨x, H1, I1, r1, q1⟩ => ?_
  obtain ⟨a, e, q⟩ := q1
  subst e
  rcases q with ⟨⟨xs, hq⟩, q⟩ | ⟨⟨xs, hq⟩, q⟩
  · cases r1
    obtain ⟨its, rv, p, hz⟩ := I1.list hq
    refine wpAny_pyIter_list p.isList ?_
    refine ⟨s1.heap.objs.size, [s1.heap.objs.size], _, _, H1, rfl, I1.kept (t' := s1.toks) fun b o e => Heap.get?_push_of_some _ e, turn_list a _, ⟨_, Heap.get?_push_size _ rfl, rfl, rfl⟩, fun b hb => ?_, q⟩
    have e : b = s1.heap.objs.size := by simpa using hb
    subst e
    exact I1.fpOk (Nat.le_refl _) (I1.hok.fresh (Nat.le_refl _))
  · cases r1
    obtain ⟨its, rv, p, hz⟩ := I1.tuple hq
    refine wpAny_pyIter_tuple (show s1.heap.IsTuple a its.toArray from p) ?_
    refine ⟨s1.heap.objs.size, [s1.heap.objs.size], _, _, H1, rfl, I1.kept (t' := s1.toks) fun b o e => Heap.get?_push_of_some _ e, turn_tuple a _, ⟨_, Heap.get?_push_size _ rfl, rfl, rfl⟩, fun b hb => ?_, q⟩
    have e : b = s1.heap.objs.size := by simpa using hb
    subst e
    exact I1.fpOk (Nat.le_refl _) (I1.hok.fresh (Nat.le_refl _))
theorem gi_of {tg l : Expr} {t : TI} {w : WI} (h : PI X tg l t) (s : ∀ F D A H σ sl P R, Sta X.K F D A H σ sl → w sl P → (∀ J H' ts, Beh D H H' → ItOk X.K A H' J ts → P ts → R J H') → t σ H R) : GI X tg l w :=
  ⟨fun pins st σ H R I ⟨F, D, A, sl, P, S, hw, q⟩ => h.run pins st σ H R I (s F D A H σ sl P R S hw q)⟩
def wiSeq (w : WE) : WI := fun sl P => w sl fun x => ∃ t ts, x = .val t ∧ t.seq = some ts ∧ P ts
theorem gi_seq {tg l : Expr} {w : WE} (h : GE X l w) : GI X tg l (wiSeq w) := gi_of (pi_seq h) fun F D A H σ sl P R S hw q =>
  ⟨F, D, A, sl, _, S, hw, fun v H1 x b1 ok hx => by
    obtain ⟨t, ts, rfl, e, hp⟩ := hx
    have r : Rep X.K A H1 v t := ok
    cases t <;> simp only [T.seq] at e <;> cases e
    · obtain ⟨a, vs, rfl, h, _⟩ := (RepS.of r).tup
      exact ⟨a, rfl, .inr ⟨⟨vs, h⟩, q _ H1 _ b1 (.tup r) hp⟩⟩
    · obtain ⟨a, vs, rfl, h, _⟩ := (RepS.of r).lst
      exact ⟨a, rfl, .inl ⟨⟨vs, .inl (.inl h)⟩, q _ H1 _ b1 (.lst r) hp⟩⟩
    · obtain ⟨a, vs, rfl, h, _⟩ := (RepS.of r).scr
      exact ⟨a, rfl, .inl ⟨⟨vs, h⟩, q _ H1 _ b1 (.scr r) hp⟩⟩⟩
def upTo (lo : Int) (n : Nat) : List T := (List.range n).map fun i => .int (lo + (i : Nat))
def wiRng1 (a : WA) : WI := fun sl P => a sl fun xs => ∃ n : Int, xs = [.val (.int n)] ∧ -(2 ^ 62) ≤ n ∧ n < 2 ^ 62 ∧ P (upTo 0 n.toNat)
theorem gi_rng1 {tg a : Expr} {p pos : Pos} {w : WA} (hg : Gl X "range") (hm : X.mg "range" = none) (ha : GA X [a] w) (hs : starEach [a] X.env = [(false, eval a X.env)] := by rfl) : GI X tg (.Call (.Name "range" p) [a] [] pos) (wiRng1 w) := gi_of (pi_range1 hg hm ha hs) fun F D A H σ sl P R S hw q =>
  ⟨F, D, A, sl, _, S, hw, fun vs H1 xs b1 oks hx => by
    obtain ⟨n, rfl, h1, h2, hp⟩ := hx
    cases oks with
    | cons ok r =>
      cases r
      cases ok
      exact ⟨n, rfl, h1, h2, q _ H1 _ b1 .rng hp⟩⟩
def wiRng2 (a : WA) : WI := fun sl P => a sl fun xs => ∃ m n : Int, xs = [.val (.int m), .val (.int n)] ∧ (-(2 ^ 62) ≤ m ∧ m < 2 ^ 62 ∧ -(2 ^ 62) ≤ n ∧ n < 2 ^ 62) ∧ P (upTo m (n - m).toNat)
def downTo (hi : Int) (n : Nat) : List T := (List.range n).map fun i => .int (hi - (i : Nat))
/-- range(m, n, -1) -/
def wiRngD (a : WA) : WI := fun sl P => a sl fun xs => ∃ m n : Int, xs = [.val (.int m), .val (.int n), .val (.int (-1))] ∧ (-(2 ^ 62) ≤ m ∧ m < 2 ^ 62 ∧ -(2 ^ 62) ≤ n ∧ n < 2 ^ 62) ∧ P (downTo m (m - n).toNat)
def wiZip (a : WA) : WI := fun sl P => a sl fun xs => ∃ ts us, xs = [.val (.lst ts), .val (.tup us)] ∧ P (List.zipWith (fun x y => T.tup [x, y]) ts us)
/-- zip of two lists or of two tuples -/
def wiZipA (a : WA) : WI := fun sl P => a sl fun xs => ∃ ts us, (xs = [.val (.lst ts), .val (.lst us)] ∨ xs = [.val (.tup ts), .val (.tup us)]) ∧ P (List.zipWith (fun x y => T.tup [x, y]) ts us)
theorem gi_zipA {e e2 : Expr} {p pos tp : Pos} {es : List Expr} {kk : Nat} {w : WA} (hg : Gl X "zip") (hm : X.mg "zip" = none) (ha : GA X [e, e2] w) (hs : starEach [e, e2] X.env = (false, eval e X.env) :: starEach [e2] X.env := by rfl) (hpl : (backTo pos (starEach [e2] X.env)).any (·.1) = false := by rfl) :
    GI X (.Tuple es kk tp) (.Call (.Name "zip" p) [e, e2] [] pos) (wiZipA w) := gi_of (RZ.pi_zipA hg hm ha hs hpl) fun F D A H σ sl P R S hw q =>
  ⟨F, D, A, sl, _, S, hw, fun vs H1 xs b1 oks hx => by
    obtain ⟨ts, us, e, hp⟩ := hx
    rcases e with rfl | rfl
    · cases oks with
      | cons ok r => cases r with
        | cons ok2 r =>
          cases r
          have r1 : Rep X.K A H1 _ (.lst ts) := ok
          have r2 : Rep X.K A H1 _ (.lst us) := ok2
          obtain ⟨a, vs, rfl, h, _⟩ := (RepS.of r1).lst
          obtain ⟨b, ws, rfl, h2, _⟩ := (RepS.of r2).lst
          exact ⟨a, b, vs, ws, rfl, .inl ⟨.inl (.inl h), .inl (.inl h2), q _ H1 _ b1 (.zipL r1 r2) hp⟩⟩
    · cases oks with
      | cons ok r => cases r with
        | cons ok2 r =>
          cases r
          have r1 : Rep X.K A H1 _ (.tup ts) := ok
          have r2 : Rep X.K A H1 _ (.tup us) := ok2
          obtain ⟨a, vs, rfl, h, _⟩ := (RepS.of r1).tup
          obtain ⟨b, ws, rfl, h2, _⟩ := (RepS.of r2).tup
          exact ⟨a, b, vs, ws, rfl, .inr ⟨h, h2, q _ H1 _ b1 (.zipT r1 r2) hp⟩⟩⟩
/-- the signs of a text, one by one -/
def wiStr (w : WE) : WI := fun sl P => w sl fun x => ∃ z, x = .val (.str z) ∧ P (sgnT z)
theorem gi_str {tg l : Expr} {w : WE} (h : GE X l w) : GI X tg l (wiStr w) := gi_of (pi_str h) fun F D A H σ sl P R S hw q =>
  ⟨F, D, A, sl, _, S, hw, fun v H1 x b1 ok hx => by
    obtain ⟨z, rfl, hp⟩ := hx
    cases ok
    exact ⟨z, rfl, q _ H1 _ b1 .sgn hp⟩⟩
/-- enumerate of a list or a tuple -/
def iEnumA (K : PySem.W.Frag) (ta : TA) : TI := fun σ H R => ta σ H fun vs H1 => ∃ a, vs = [.ref a] ∧ ((∃ xs, SqL K H1 a xs) ∧ R (Ite K a) H1 ∨ (∃ xs, SqT K H1 a xs) ∧ R (En.ItT K a) H1)
theorem pi_enumA {X : Cx} {e : Expr} {ta : TA} {p pos tpos : Pos} {elts : List Expr} {kk : Nat} (hg : Gl X "enumerate") (hm : X.mg "enumerate" = none) (ha : PA X [e] ta) (hs : starEach [e] X.env = [(false, eval e X.env)] := by rfl) :
    PI X (.Tuple elts kk tpos) (.Call (.Name "enumerate" p) [e] [] pos) (iEnumA X.K ta) := by
  refine ⟨fun pins s σ H R I h => ?_⟩
  refine Call_ (ld_blt I hg hm boot_enumerate (PyProof.Rows.callWith_type1 (thn (ha.run pos pins s σ H _ I h) fun us s1 ⟨vs, H1, I1, r1, q1⟩ => ?_) hs rfl))
  obtain ⟨a, ex, q⟩ := q1
  subst ex
  cases r1 with
  | cons r rr =>
    cases rr
    cases r
    rcases q with ⟨⟨xs, hq⟩, q⟩ | ⟨⟨xs, hq⟩, q⟩
    · exact En.enum_l I1 hq q
    · exact En.enum_t I1 hq q
def wiEnum (a : WA) : WI := fun sl P => a sl fun xs => ∃ t ts, xs = [.val t] ∧ (t = .lst ts ∨ t = .tup ts) ∧ P (enT 0 ts)
theorem gi_enum {e : Expr} {p pos tp : Pos} {es : List Expr} {kk : Nat} {w : WA} (hg : Gl X "enumerate") (hm : X.mg "enumerate" = none) (ha : GA X [e] w) (hs : starEach [e] X.env = [(false, eval e X.env)] := by rfl) :
    GI X (.Tuple es kk tp) (.Call (.Name "enumerate" p) [e] [] pos) (wiEnum w) := gi_of (pi_enumA hg hm ha hs) fun F D A H σ sl P R S hw q =>
  ⟨F, D, A, sl, _, S, hw, fun vs H1 xs b1 oks hx => by
    obtain ⟨t, ts, rfl, e2, hp⟩ := hx
    cases oks with
    | cons ok r =>
      cases r
      have r1 : Rep X.K A H1 _ t := ok
      rcases e2 with rfl | rfl
      · obtain ⟨a, vs, rfl, h, _⟩ := (RepS.of r1).lst
        exact ⟨a, rfl, .inl ⟨⟨vs, .inl (.inl h)⟩, q _ H1 _ b1 (.enL r1) hp⟩⟩
      · obtain ⟨a, vs, rfl, h, _⟩ := (RepS.of r1).tup
        exact ⟨a, rfl, .inr ⟨⟨vs, h⟩, q _ H1 _ b1 (.enT r1) hp⟩⟩⟩
/-! the walk's turns -/
theorem zip_rep {A : Avoid} {H : Hp} : ∀ {vs : List V} {ts : List T}, RepAll K A H vs ts → ∀ p ∈ vs.zip ts, Rep K A H p.1 p.2
  | _, _, .nil, p, hp => nomatch hp
  | _, _, .cons q r, p, hp => by
    rw [List.zip_cons_cons] at hp
    rcases List.mem_cons.mp hp with e | e
    · rw [e]; exact q
    · exact zip_rep r p e
theorem rep_zip {A : Avoid} {H : Hp} : ∀ {vs : List V} {ts : List T}, vs.length = ts.length → (∀ p ∈ vs.zip ts, Rep K A H p.1 p.2) → RepAll K A H vs ts
  | [], [], _, _ => .nil
  | v :: vs, t :: ts, e, h => .cons (h (v, t) (by rw [List.zip_cons_cons]; exact List.mem_cons_self)) (rep_zip (by simpa using e) fun p hp => h p (by rw [List.zip_cons_cons]; exact List.mem_cons_of_mem _ hp))
theorem ItOk.held {A : Avoid} {H : Hp} {J : It} {ts : List T} (h : ItOk K A H J ts) : ∃ (G : List (V × T)) (L : List (Addr × Obj × List (Key × V))), (∀ p ∈ G, Rep K A H p.1 p.2) ∧ (∀ p ∈ L, p.1 ∉ A ∧ H p.1 = some (.frz p.2.1 (.dK p.2.2))) ∧ ∀ A' H', (∀ p ∈ G, Rep K A' H' p.1 p.2) → (∀ p ∈ L, p.1 ∉ A' ∧ H' p.1 = some (.frz p.2.1 (.dK p.2.2))) → ItOk K A' H' J ts := by
  cases h with
  | lst r => exact ⟨[(_, _)], [], fun p hp => by rw [List.mem_singleton.mp hp]; exact r, (fun p hp => by cases hp), fun A' H' h _ => .lst (h _ (List.mem_singleton.mpr rfl))⟩
  | scr r => exact ⟨[(_, _)], [], fun p hp => by rw [List.mem_singleton.mp hp]; exact r, (fun p hp => by cases hp), fun A' H' h _ => .scr (h _ (List.mem_singleton.mpr rfl))⟩
  | tup r => exact ⟨[(_, _)], [], fun p hp => by rw [List.mem_singleton.mp hp]; exact r, (fun p hp => by cases hp), fun A' H' h _ => .tup (h _ (List.mem_singleton.mpr rfl))⟩
  | rng => exact ⟨[], [], (fun p hp => by cases hp), (fun p hp => by cases hp), fun A' H' h _ => .rng⟩
  | rngD => exact ⟨[], [], (fun p hp => by cases hp), (fun p hp => by cases hp), fun A' H' h _ => .rngD⟩
  | zipM r r2 => exact ⟨[(_, _), (_, _)], [], fun p hp => by
      rcases List.mem_cons.mp hp with e | e
      · rw [e]; exact r
      · rw [List.mem_singleton.mp e]; exact r2, (fun p hp => by cases hp), fun A' H' h _ => .zipM (h _ List.mem_cons_self) (h _ (List.mem_cons_of_mem _ (List.mem_singleton.mpr rfl)))⟩
  | enL r => exact ⟨[(_, _)], [], fun p hp => by rw [List.mem_singleton.mp hp]; exact r, (fun p hp => by cases hp), fun A' H' h _ => .enL (h _ (List.mem_singleton.mpr rfl))⟩
  | enT r => exact ⟨[(_, _)], [], fun p hp => by rw [List.mem_singleton.mp hp]; exact r, (fun p hp => by cases hp), fun A' H' h _ => .enT (h _ (List.mem_singleton.mpr rfl))⟩
  | sgn => exact ⟨[], [], (fun p hp => by cases hp), (fun p hp => by cases hp), fun A' H' h _ => .sgn⟩
  | zipL r r2 => exact ⟨[(_, _), (_, _)], [], fun p hp => by
      rcases List.mem_cons.mp hp with e | e
      · rw [e]; exact r
      · rw [List.mem_singleton.mp e]; exact r2, (fun p hp => by cases hp), fun A' H' h _ => .zipL (h _ List.mem_cons_self) (h _ (List.mem_cons_of_mem _ (List.mem_singleton.mpr rfl)))⟩
  | zipT r r2 => exact ⟨[(_, _), (_, _)], [], fun p hp => by
      rcases List.mem_cons.mp hp with e | e
      · rw [e]; exact r
      · rw [List.mem_singleton.mp e]; exact r2, (fun p hp => by cases hp), fun A' H' h _ => .zipT (h _ List.mem_cons_self) (h _ (List.mem_cons_of_mem _ (List.mem_singleton.mpr rfl)))⟩
  | @itm d o ks vs us hA hd hl ra => exact ⟨vs.zip us, [(d, o, ks.zip vs)], zip_rep ra, fun p hp => by rw [List.mem_singleton.mp hp]; exact ⟨hA, hd⟩, fun A' H' h hL => .itm (hL _ (List.mem_singleton.mpr rfl)).1 (hL _ (List.mem_singleton.mpr rfl)).2 hl (rep_zip ra.length h)⟩
  | @key d o ks vs hA hd hl => exact ⟨[], [(d, o, ks.zip vs)], (fun p hp => by cases hp), fun p hp => by rw [List.mem_singleton.mp hp]; exact ⟨hA, hd⟩, fun A' H' h hL => .key (hL _ (List.mem_singleton.mpr rfl)).1 (hL _ (List.mem_singleton.mpr rfl)).2 hl⟩
theorem ItOk.turn {A : Avoid} {H : Hp} {J : It} {ts : List T} (h : ItOk K A H J ts) (al : ∀ a ∈ A, H a ≠ none) {i : Nat} : (i < ts.length → J.go i H ∧ ∀ y H', J.yld i H y H' → Ext [] H H' ∧ ∃ t, ts[i]? = some t ∧ Rep K A H' y t) ∧ (ts.length ≤ i → J.stop i H) := by
  cases h with
  | lst r =>
    obtain ⟨a, vs, e, hl, ra⟩ := (RepS.of r).lst
    cases e
    refine ⟨fun hi => ?_, fun hi => ⟨vs, .inl (.inl hl), by rw [ra.length]; exact hi⟩⟩
    obtain ⟨w, e1, rw'⟩ := ra.get (List.getElem?_eq_getElem hi)
    exact ⟨⟨vs, w, .inl (.inl hl), e1⟩, fun y H' hy => ⟨by rw [hy.1]; exact Ext.refl H, _, List.getElem?_eq_getElem hi, by
      have := hy.2 vs (.inl (.inl hl))
      rw [e1] at this
      cases this
      rw [hy.1]
      exact rw'⟩⟩
  | scr r =>
    obtain ⟨a, vs, e, hl, ra⟩ := (RepS.of r).scr
    cases e
    refine ⟨fun hi => ?_, fun hi => ⟨vs, hl, by rw [ra.length]; exact hi⟩⟩
    obtain ⟨w, e1, rw'⟩ := ra.get (List.getElem?_eq_getElem hi)
    exact ⟨⟨vs, w, hl, e1⟩, fun y H' hy => ⟨by rw [hy.1]; exact Ext.refl H, _, List.getElem?_eq_getElem hi, by
      have := hy.2 vs hl
      rw [e1] at this
      cases this
      rw [hy.1]
      exact rw'⟩⟩
  | tup r =>
    obtain ⟨a, vs, e, hl, ra⟩ := (RepS.of r).tup
    cases e
    refine ⟨fun hi => ?_, fun hi => ⟨vs, hl, by rw [ra.length]; exact hi⟩⟩
    obtain ⟨w, e1, rw'⟩ := ra.get (List.getElem?_eq_getElem hi)
    exact ⟨⟨vs, w, hl, e1⟩, fun y H' hy => ⟨by rw [hy.1]; exact Ext.refl H, _, List.getElem?_eq_getElem hi, by
      have := hy.2 vs hl
      rw [e1] at this
      cases this
      rw [hy.1]
      exact rw'⟩⟩
  | @rng lo n =>
    refine ⟨fun hi => ?_, fun hi => ?_⟩
    · rw [List.length_map, List.length_range] at hi
      exact ⟨hi, fun y H' hy => ⟨by rw [hy.1]; exact Ext.refl H, .int (lo + (i : Nat)), by rw [List.getElem?_map, List.getElem?_range hi]; rfl, by rw [hy.2]; exact .int _⟩⟩
    · rw [List.length_map, List.length_range] at hi
      exact hi
  | @rngD lo n =>
    refine ⟨fun hi => ?_, fun hi => ?_⟩
    · rw [List.length_map, List.length_range] at hi
      exact ⟨hi, fun y H' hy => ⟨by rw [hy.1]; exact Ext.refl H, .int (lo - (i : Nat)), by rw [List.getElem?_map, List.getElem?_range hi]; rfl, by
        rw [hy.2, show lo + (i : Nat) * (-1 : Int) = lo - (i : Nat) by omega]
        exact .int _⟩⟩
    · rw [List.length_map, List.length_range] at hi
      exact hi
  | @zipM a b us ws r r2 =>
    obtain ⟨a', vs, e, hl, ra⟩ := (RepS.of r).lst
    cases e
    obtain ⟨b', xs, e, hl2, rb⟩ := (RepS.of r2).tup
    cases e
    rw [List.length_zipWith]
    refine ⟨fun hi => ?_, fun hi => ⟨vs, xs, .inl (.inl hl), hl2, by rw [ra.length, rb.length]; omega⟩⟩
    obtain ⟨v1, e1, r1⟩ := ra.get (List.getElem?_eq_getElem (show i < us.length by omega))
    obtain ⟨v2, e2, r2'⟩ := rb.get (List.getElem?_eq_getElem (show i < ws.length by omega))
    refine ⟨⟨vs, xs, v1, v2, .inl (.inl hl), hl2, e1, e2⟩, fun y H' hy => ?_⟩
    obtain ⟨t, x, y', rfl, hn, rfl, f1, f2⟩ := hy
    have g1 := f1 vs (.inl (.inl hl))
    have g2 := f2 xs hl2
    rw [e1] at g1
    rw [e2] at g2
    cases g1
    cases g2
    refine ⟨Ext.new hn, .tup [us[i], ws[i]], ?_, .tup (fresh_notin al hn) upd_same (.cons (r1.mono (Ext.new hn)) (.cons (r2'.mono (Ext.new hn)) .nil))⟩
    rw [List.getElem?_zipWith, List.getElem?_eq_getElem (show i < us.length by omega), List.getElem?_eq_getElem (show i < ws.length by omega)]
  | @enL a us r =>
    obtain ⟨a', vs, e, hl, ra⟩ := (RepS.of r).lst
    cases e
    rw [enT_length]
    refine ⟨fun hi => ?_, fun hi => ⟨vs, .inl (.inl hl), by rw [ra.length]; exact hi⟩⟩
    obtain ⟨v1, e1, r1⟩ := ra.get (List.getElem?_eq_getElem hi)
    refine ⟨⟨vs, v1, .inl (.inl hl), e1⟩, fun y H' hy => ?_⟩
    obtain ⟨t, x, rfl, hn, rfl, f1⟩ := hy
    have g1 := f1 vs (.inl (.inl hl))
    rw [e1] at g1
    cases g1
    refine ⟨Ext.new hn, .tup [.int ((i : Nat) : Int), us[i]], ?_, .tup (fresh_notin al hn) upd_same (.cons (.int _) (.cons (r1.mono (Ext.new hn)) .nil))⟩
    rw [enT_get, List.getElem?_eq_getElem hi, Nat.zero_add]
    rfl
  | @enT a us r =>
    obtain ⟨a', vs, e, hl, ra⟩ := (RepS.of r).tup
    cases e
    rw [enT_length]
    refine ⟨fun hi => ?_, fun hi => ⟨vs, hl, by rw [ra.length]; exact hi⟩⟩
    obtain ⟨v1, e1, r1⟩ := ra.get (List.getElem?_eq_getElem hi)
    refine ⟨⟨vs, v1, hl, e1⟩, fun y H' hy => ?_⟩
    obtain ⟨t, x, rfl, hn, rfl, f1⟩ := hy
    have g1 := f1 vs hl
    rw [e1] at g1
    cases g1
    refine ⟨Ext.new hn, .tup [.int ((i : Nat) : Int), us[i]], ?_, .tup (fresh_notin al hn) upd_same (.cons (.int _) (.cons (r1.mono (Ext.new hn)) .nil))⟩
    rw [enT_get, List.getElem?_eq_getElem hi, Nat.zero_add]
    rfl
  | @sgn x =>
    unfold sgnT
    rw [List.length_map, Array.length_toList]
    refine ⟨fun hi => ⟨hi, fun y H' hy => ⟨by rw [hy.1]; exact Ext.refl H, ?_⟩⟩, fun hi => hi⟩
    obtain ⟨rfl, c, ec, rfl⟩ := hy
    refine ⟨.str ⟨#[c]⟩, ?_, .str _⟩
    rw [List.getElem?_map, Array.getElem?_toList, ec]
    rfl
  | @zipL a b us ws r r2 =>
    obtain ⟨a', vs, e, hl, ra⟩ := (RepS.of r).lst
    cases e
    obtain ⟨b', xs, e, hl2, rb⟩ := (RepS.of r2).lst
    cases e
    rw [List.length_zipWith]
    refine ⟨fun hi => ?_, fun hi => ⟨vs, xs, .inl (.inl hl), .inl (.inl hl2), by rw [ra.length, rb.length]; omega⟩⟩
    obtain ⟨v1, e1, r1⟩ := ra.get (List.getElem?_eq_getElem (show i < us.length by omega))
    obtain ⟨v2, e2, r2'⟩ := rb.get (List.getElem?_eq_getElem (show i < ws.length by omega))
    refine ⟨⟨vs, xs, v1, v2, .inl (.inl hl), .inl (.inl hl2), e1, e2⟩, fun y H' hy => ?_⟩
    obtain ⟨t, x, y', rfl, hn, rfl, f1, f2⟩ := hy
    have g1 := f1 vs (.inl (.inl hl))
    have g2 := f2 xs (.inl (.inl hl2))
    rw [e1] at g1
    rw [e2] at g2
    cases g1
    cases g2
    refine ⟨Ext.new hn, .tup [us[i], ws[i]], ?_, .tup (fresh_notin al hn) upd_same (.cons (r1.mono (Ext.new hn)) (.cons (r2'.mono (Ext.new hn)) .nil))⟩
    rw [List.getElem?_zipWith, List.getElem?_eq_getElem (show i < us.length by omega), List.getElem?_eq_getElem (show i < ws.length by omega)]
  | @zipT a b us ws r r2 =>
    obtain ⟨a', vs, e, hl, ra⟩ := (RepS.of r).tup
    cases e
    obtain ⟨b', xs, e, hl2, rb⟩ := (RepS.of r2).tup
    cases e
    rw [List.length_zipWith]
    refine ⟨fun hi => ?_, fun hi => ⟨vs, xs, hl, hl2, by rw [ra.length, rb.length]; omega⟩⟩
    obtain ⟨v1, e1, r1⟩ := ra.get (List.getElem?_eq_getElem (show i < us.length by omega))
    obtain ⟨v2, e2, r2'⟩ := rb.get (List.getElem?_eq_getElem (show i < ws.length by omega))
    refine ⟨⟨vs, xs, v1, v2, hl, hl2, e1, e2⟩, fun y H' hy => ?_⟩
    obtain ⟨t, x, y', rfl, hn, rfl, f1, f2⟩ := hy
    have g1 := f1 vs hl
    have g2 := f2 xs hl2
    rw [e1] at g1
    rw [e2] at g2
    cases g1
    cases g2
    refine ⟨Ext.new hn, .tup [us[i], ws[i]], ?_, .tup (fresh_notin al hn) upd_same (.cons (r1.mono (Ext.new hn)) (.cons (r2'.mono (Ext.new hn)) .nil))⟩
    rw [List.getElem?_zipWith, List.getElem?_eq_getElem (show i < us.length by omega), List.getElem?_eq_getElem (show i < ws.length by omega)]

  | @itm d o ks vs us hA hd hl ra =>
    have hu := ra.length
    rw [List.length_zipWith]
    refine ⟨fun hi => ⟨⟨hd, by rw [List.length_zip]; omega⟩, fun y H' hy => ?_⟩, fun hi => ⟨hd, by rw [List.length_zip]; omega⟩⟩
    obtain ⟨p, k, v, e, rfl, hn, rfl⟩ := hy
    obtain ⟨w, e1, r1⟩ := ra.get (List.getElem?_eq_getElem (show i < us.length by omega))
    have ek : ks[i]? = some k ∧ vs[i]? = some v := by
      rw [List.getElem?_eq_getElem (by rw [List.length_zip]; omega), List.getElem_zip] at e
      have e := Option.some.inj e
      rw [Prod.mk.injEq] at e
      exact ⟨by rw [List.getElem?_eq_getElem (show i < ks.length by omega), e.1], by rw [List.getElem?_eq_getElem (show i < vs.length by omega), e.2]⟩
    rw [ek.2] at e1
    cases e1
    refine ⟨Ext.new hn, .tup [keyW k, us[i]], ?_, .tup (fresh_notin al hn) upd_same (.cons (keyW_rep k) (.cons (r1.mono (Ext.new hn)) .nil))⟩
    rw [List.getElem?_zipWith, ek.1, List.getElem?_eq_getElem (show i < us.length by omega)]
  | @key d o ks vs hA hd hl =>
    rw [List.length_map]
    refine ⟨fun hi => ⟨⟨hd, by rw [List.length_zip]; omega⟩, fun y H' hy => ?_⟩, fun hi => ⟨hd, by rw [List.length_zip]; omega⟩⟩
    obtain ⟨rfl, k, v, e, rfl⟩ := hy
    have ek : ks[i]? = some k := by
      rw [List.getElem?_eq_getElem (by rw [List.length_zip]; omega), List.getElem_zip] at e
      have e := Option.some.inj e
      rw [Prod.mk.injEq] at e
      rw [List.getElem?_eq_getElem (show i < ks.length by omega), e.1]
    exact ⟨Ext.refl _, keyW k, by rw [List.getElem?_map, ek]; rfl, keyW_rep k⟩
/-! ### 10. targets -/
inductive Tg where
  | name (i : Nat) | names (is : List Nat) | nest (gs : List (Nat ⊕ List Nat))
def gNames : List Nat → TGs
  | [] => gNil
  | i :: r => gCons (gName i) (gNames r)
def gNest (K : PySem.W.Frag) : List (Nat ⊕ List Nat) → TGs
  | [] => gNil
  | .inl i :: r => gCons (gName i) (gNest K r)
  | .inr is :: r => gCons (gTup K is.length (gNames is)) (gNest K r)
def Tg.g (K : PySem.W.Frag) : Tg → TG
  | .name i => gName i
  | .names is => gTup K is.length (gNames is)
  | .nest gs => gTup K gs.length (gNest K gs)
def setAll (sl : List Sl) : List Nat → List T → List Sl
  | i :: is, t :: ts => setAll (sl.set i (.val t)) is ts
  | _, _ => sl
def setN : List Sl → List (Nat ⊕ List Nat) → List T → Option (List Sl)
  | sl, [], [] => some sl
  | sl, .inl i :: gs, t :: ts => setN (sl.set i (.val t)) gs ts
  | sl, .inr is :: gs, .tup us :: ts => if us.length = is.length then setN (setAll sl is us) gs ts else none
  | _, _, _ => none
def Tg.st : Tg → T → List Sl → Option (List Sl)
  | .name i, t, sl => some (sl.set i (.val t))
  | .names is, .tup ts, sl => if ts.length = is.length then some (setAll sl is ts) else none
  | .nest gs, .tup ts, sl => setN sl gs ts
  | _, _, _ => none
def nestIs : List (Nat ⊕ List Nat) → List Nat
  | [] => []
  | .inl i :: r => i :: nestIs r
  | .inr is :: r => is ++ nestIs r
def Tg.is : Tg → List Nat
  | .name i => [i]
  | .names is => is
  | .nest gs => nestIs gs
theorem wipe_get_none {σ : L2.St} : ∀ {vs : List Nat} {i : Nat}, i ∈ vs → i < σ.length → (L2.wipe σ vs)[i]? = some none
  | [], _, h, _ => by cases h
  | v :: vs, i, h, hl => by
    unfold L2.wipe
    by_cases e : v = i
    · subst e
      rw [List.getElem?_set_self (by rw [L2.wipe_length]; exact hl)]
    · rw [List.getElem?_set_ne e]
      rcases List.mem_cons.mp h with z | z
      · exact absurd z.symm e
      · exact wipe_get_none z hl
theorem wipe_get_out {σ : L2.St} : ∀ {vs : List Nat} {i : Nat}, i ∉ vs → (L2.wipe σ vs)[i]? = σ[i]?
  | [], _, _ => rfl
  | v :: vs, i, h => by
    unfold L2.wipe
    rw [List.mem_cons, not_or] at h
    rw [List.getElem?_set_ne (fun z => h.1 z.symm)]
    exact wipe_get_out h.2
theorem wipe_eq {σ τ : L2.St} {vs : List Nat} (hl : σ.length = τ.length) (h : ∀ i, i ∉ vs → σ[i]? = τ[i]?) : L2.wipe σ vs = L2.wipe τ vs := by
  apply List.ext_getElem?
  intro i
  by_cases hi : i ∈ vs
  · by_cases hlt : i < σ.length
    · rw [wipe_get_none hi hlt, wipe_get_none hi (by omega)]
    · rw [List.getElem?_eq_none (by rw [L2.wipe_length]; omega), List.getElem?_eq_none (by rw [L2.wipe_length]; omega)]
  · rw [wipe_get_out hi, wipe_get_out hi]
    exact h i hi
/-- a slot of the target is set, the others stay -/
structure SetAt (is : List Nat) (σ σ' : L2.St) : Prop where
  len : σ'.length = σ.length
  out : ∀ i, i ∉ is → σ'[i]? = σ[i]?
theorem sg_names : ∀ {is : List Nat} {vs : List V} {ts : List T} {σ : L2.St} {sl : List Sl} {Q : L2.St → Hp → Prop}, Sta K F D A H σ sl → RepAll K A H vs ts → ts.length = is.length →
    (∀ σ', Sta K F D A H σ' (setAll sl is ts) → SetAt is σ σ' → Q σ' H) → gNames is vs σ H Q
  | [], _, _, σ, sl, Q, S, .nil, _, q => ⟨rfl, q σ S ⟨rfl, fun _ _ => rfl⟩⟩
  | i :: is, _, _, σ, sl, Q, S, .cons (v := v) (t := t) h r, hl, q => by
    refine ⟨v, _, rfl, ?_⟩
    refine sg_names (Sta.set (i := i) S (x := .val t) h (fun _ _ z => nomatch z)) r (by simpa using hl) fun σ' S' c => q σ' S' ⟨by rw [c.len, List.length_set], fun j hj => ?_⟩
    rw [List.mem_cons, not_or] at hj
    rw [c.out j hj.2, List.getElem?_set_ne (fun z => hj.1 z.symm)]
  | [], _, _, σ, sl, Q, S, .cons h r, hl, q => by cases hl
  | i :: is, _, _, σ, sl, Q, S, .nil, hl, q => by cases hl
theorem setN_len : ∀ {gs : List (Nat ⊕ List Nat)} {ts : List T} {sl sl' : List Sl}, setN sl gs ts = some sl' → ts.length = gs.length
  | [], [], _, _, _ => rfl
  | [], _ :: _, _, _, e => by simp [setN] at e
  | .inl i :: gs, [], _, _, e => by simp [setN] at e
  | .inr i :: gs, [], _, _, e => by simp [setN] at e
  | .inl i :: gs, t :: ts, _, _, e => by
    simp only [setN] at e
    rw [List.length_cons, List.length_cons, setN_len e]
  | .inr is :: gs, t :: ts, _, _, e => by
    cases t with
    | tup us =>
      simp only [setN] at e
      split at e
      · rw [List.length_cons, List.length_cons, setN_len e]
      · cases e
    | _ => simp [setN] at e
theorem SetAt.trans {is js : List Nat} {σ σ1 σ2 : L2.St} (a : SetAt is σ σ1) (b : SetAt js σ1 σ2) : SetAt (is ++ js) σ σ2 := ⟨by rw [b.len, a.len], fun i hi => by
  rw [List.mem_append, not_or] at hi
  rw [b.out i hi.2, a.out i hi.1]⟩
theorem sg_nest : ∀ {gs : List (Nat ⊕ List Nat)} {vs : List V} {ts : List T} {σ : L2.St} {sl sl' : List Sl} {Q : L2.St → Hp → Prop}, Sta K F D A H σ sl → RepAll K A H vs ts → setN sl gs ts = some sl' →
    (∀ σ', Sta K F D A H σ' sl' → SetAt (nestIs gs) σ σ' → Q σ' H) → gNest K gs vs σ H Q
  | [], _, _, σ, sl, sl', Q, S, .nil, e, q => by
    simp only [setN] at e
    cases e
    exact ⟨rfl, q σ S ⟨rfl, fun _ _ => rfl⟩⟩
  | [], _, _, σ, sl, sl', Q, S, .cons _ _, e, q => by simp [setN] at e
  | .inl i :: gs, _, _, σ, sl, sl', Q, S, .nil, e, q => by simp [setN] at e
  | .inr i :: gs, _, _, σ, sl, sl', Q, S, .nil, e, q => by simp [setN] at e
  | .inl i :: gs, _, _, σ, sl, sl', Q, S, .cons (v := v) (t := t) h r, e, q => by
    simp only [setN] at e
    refine ⟨v, _, rfl, ?_⟩
    refine sg_nest (Sta.set (i := i) S (x := .val t) h (fun _ _ z => nomatch z)) r e fun σ' S' c => q σ' S' ⟨by rw [c.len, List.length_set], fun j hj => ?_⟩
    have hj' : j ∉ i :: nestIs gs := hj
    rw [List.mem_cons, not_or] at hj'
    rw [c.out j hj'.2, List.getElem?_set_ne (fun z => hj'.1 z.symm)]
  | .inr is :: gs, _, _, σ, sl, sl', Q, S, .cons (v := v) (t := t) h r, e, q => by
    cases t with
    | tup us =>
      simp only [setN] at e
      split at e
      · rename_i hl
        obtain ⟨a, vs, rfl, h, ra⟩ := (RepS.of h).tup
        exact ⟨_, _, rfl, a, vs, rfl, h, by rw [ra.length]; exact hl, sg_names S ra hl fun σ1 S1 c1 => sg_nest S1 r e fun σ' S' c => q σ' S' (c1.trans c)⟩
      · cases e
    | _ => simp [setN] at e
theorem sg (tg : Tg) {t : T} {sl' : List Sl} {Q : L2.St → Hp → Prop} (S : Sta K F D A H σ sl) (r : Rep K A H v t) (e : tg.st t sl = some sl') (q : ∀ σ', Sta K F D A H σ' sl' → SetAt tg.is σ σ' → Q σ' H) : tg.g K v σ H Q := by
  cases tg with
  | name i =>
    cases e
    exact q _ (Sta.set S (x := .val t) r (fun _ _ z => nomatch z)) ⟨List.length_set, fun j hj => List.getElem?_set_ne (fun z => hj (by rw [z]; exact List.mem_singleton.mpr rfl))⟩
  | names is =>
    cases t with
    | tup ts =>
      simp only [Tg.st] at e
      split at e
      · rename_i hl
        cases e
        obtain ⟨a, vs, rfl, h, ra⟩ := (RepS.of r).tup
        exact ⟨a, vs, rfl, h, by rw [ra.length]; exact hl, sg_names S ra hl q⟩
      · cases e
    | _ => cases e
  | nest gs =>
    cases t with
    | tup ts =>
      simp only [Tg.st] at e
      obtain ⟨a, vs, rfl, h, ra⟩ := (RepS.of r).tup
      exact ⟨a, vs, rfl, h, by rw [ra.length]; exact setN_len e, sg_nest S ra e q⟩
    | _ => cases e
end
end Tr


set_option Elab.async false
set_option linter.all false
set_option maxRecDepth 100000
set_option maxHeartbeats 0
namespace Tr
open PySem PySem.Spec PyProof.Rows L2
variable [Tabl]
section
variable {X : Cx} {K : PySem.W.Frag}
/-! ### 11. comprehensions -/
def wColl (g : Tg) (wt : WT) (we : WE) (sl : List Sl) (P : List T → Prop) : List T → List T → Prop
  | [], acc => P acc
  | t :: r, acc => ∃ sl', g.st t sl = some sl' ∧ wt sl' fun b => if b = true then we sl' fun y => ∃ u, y = .val u ∧ wColl g wt we sl P r (acc ++ [u]) else wColl g wt we sl P r acc
def wLc (wi : WI) (g : Tg) (wt : WT) (we : WE) (vs : List Nat) : WL := fun sl P => wi sl fun ts => ts.length ≤ 100000 ∧ wColl g wt we (wipeS sl vs) P ts []
def wYes : WT := fun _ P => P true
theorem st_yes : ST K tYes wYes := fun F D A H σ sl P Q S hw q => q true H (Beh.refl S) hw
theorem lc_all {J : It} {n : Nat} {g : TG} {tt : TT} {te : TE} {vs : List Nat} {σ : L2.St} {H1 : Hp} {D : Addr} {Qd : Hp → Prop} (Pv : Nat → Hp → Prop) (h0 : Pv 0 (upd H1 D (.lst []))) (hgo : ∀ i H, i < n → Pv i H → J.go i H) (hst : ∀ H, Pv n H → J.stop n H)
    (hs : ∀ i x H H', i < n → Pv i H → J.yld i H x H' → g x (L2.wipe σ vs) H' fun σ2 H2 => L2.wipe σ2 vs = L2.wipe σ vs ∧ tt σ2 H2 fun b H3 =>
      if b = true then te σ2 H3 fun y H4 => ∃ acc, H4 D = some (.lst acc) ∧ acc.length < sizeLine ∧ Pv (i + 1) (upd H4 D (.lst (acc ++ [y]))) else Pv (i + 1) H3) (hd : ∀ H, Pv n H → Qd H) :
    ∃ W : Nat → Nat → Hp → Prop, (∃ m, W 0 m (upd H1 D (.lst []))) ∧ ∀ i m H, W i m H →
      (J.stop i H ∧ Qd H) ∨ (J.go i H ∧ ∃ Nx : Hp → Prop, (∀ H', Nx H' → ∃ m', m' < m ∧ W (i + 1) m' H') ∧ ∀ x H', J.yld i H x H' → g x (L2.wipe σ vs) H' fun σ2 H2 => L2.wipe σ2 vs = L2.wipe σ vs ∧ tt σ2 H2 fun b H3 =>
        if b = true then te σ2 H3 fun y H4 => ∃ acc, H4 D = some (.lst acc) ∧ acc.length < sizeLine ∧ Nx (upd H4 D (.lst (acc ++ [y]))) else Nx H3) := by
  refine ⟨fun i m H => m = n - i ∧ i ≤ n ∧ Pv i H, ⟨n, by simp, Nat.zero_le _, h0⟩, ?_⟩
  rintro i m H ⟨rfl, hi, p⟩
  by_cases hlt : i < n
  · exact .inr ⟨hgo i H hlt p, Pv (i + 1), fun H' p' => ⟨n - (i + 1), by omega, rfl, hlt, p'⟩, fun x H' y => hs i x H H' hlt p y⟩
  · have e : i = n := by omega
    subst e
    exact .inl ⟨hst H p, hd H p⟩
theorem lc_core {F : Fx} {D A : Avoid} {H1 : Hp} {σ : L2.St} {sl : List Sl} {J : It} {ts : List T} {P : List T → Prop} {Q : Hp → Prop} {g : Tg} {wt : WT} {tt : TT} {we : WE} {vx : List Nat} {p : Addr} (st : ST K tt wt) (hin : ∀ i ∈ g.is, i ∈ vx) (S1 : Sta K F D A H1 σ sl) (io : ItOk K A H1 J ts)
    (hlen : ts.length ≤ 100000) (hco : wColl g wt we (wipeS sl vx) P ts []) (hp : H1 p = none) (q : ∀ H' vs acc, Beh D H1 H' → p ∉ A → H' p = some (.lst vs) → RepAll K (p :: A) H' vs acc → P acc → Q H') :
    ∃ W : Nat → Nat → Hp → Prop, (∃ m, W 0 m (upd H1 p (.lst []))) ∧ ∀ i m H, W i m H →
      (J.stop i H ∧ Q H) ∨ (J.go i H ∧ ∃ Nx : Hp → Prop, (∀ H', Nx H' → ∃ m', m' < m ∧ W (i + 1) m' H') ∧ ∀ x H', J.yld i H x H' → g.g K x (L2.wipe σ vx) H' fun σ2 H2 => L2.wipe σ2 vx = L2.wipe σ vx ∧ tt σ2 H2 fun b H3 =>
        if b = true then eOf K we σ2 H3 fun y H4 => ∃ acc, H4 p = some (.lst acc) ∧ acc.length < sizeLine ∧ Nx (upd H4 p (.lst (acc ++ [y]))) else Nx H3) := by
  have hpA : p ∉ A := fresh_notin S1.alive hp
  obtain ⟨G, L, g1, g0, g2⟩ := io.held
  let F' : Fx := { F with G := G ++ F.G, L := L ++ F.L }
  have lkF : ∀ r ∈ F'.L, r.1 ∉ A ∧ H1 r.1 = some (.frz r.2.1 (.dK r.2.2)) := fun r hr => (List.mem_append.mp hr).elim (g0 r) (S1.lk r)
  have ghF : ∀ r ∈ F'.G, Rep K A H1 r.1 r.2 := fun r hr => by
    rcases List.mem_append.mp hr with z | z
    · exact g1 r z
    · exact S1.gh r z
  have SF : Sta K F' D A H1 σ sl := ⟨S1.dice, S1.dA, S1.sub, S1.alive, S1.base, S1.dbase, S1.dsub, S1.keep, S1.tabs, S1.ext, S1.slots, S1.dist, ghF, lkF⟩
  have SG0 : Sta K F' D (p :: A) (upd H1 p (.lst [])) (L2.wipe σ vx) (wipeS sl vx) := (SF.grow hp).wipe _
  have hpD : p ∉ D := fun z => hpA (S1.dA p z)
  have no0 : ∀ (j : Nat) (l' : Addr) (ts : OwnT), (wipeS sl vx)[j]? = some (Sl.ob l' ts) → l' ≠ p := fun j l' us e z => by
    obtain ⟨v, _, ok⟩ := (SF.wipe vx).get e (fun z => nomatch z)
    obtain ⟨_, hl, _⟩ := ok
    exact hpA (by rw [← z]; exact hl)
  refine lc_all (n := ts.length) (fun i H' => ∃ acc vs, Sta K F' D (p :: A) H' (L2.wipe σ vx) (wipeS sl vx) ∧ Beh D H1 H' ∧ H' p = some (.lst vs) ∧ RepAll K (p :: A) H' vs acc ∧ acc.length ≤ i ∧ wColl g wt we (wipeS sl vx) P (ts.drop i) acc)
    ⟨[], [], SG0, ⟨fun a o n e => by rw [upd_ne (ne_of_none e hp)]; exact e, fun _ _ => Keep.new hp⟩, upd_same, .nil, Nat.zero_le _, hco⟩ (fun i H' hlt hP => ?_) (fun H' hP => ?_) (fun i x H' H2 hlt hP hy => ?_) (fun H' hP => ?_)
  · obtain ⟨acc, vs, Sx, _⟩ := hP
    exact (((g2 (p :: A) H' (fun r hr => Sx.gh r (List.mem_append.mpr (.inl hr))) fun r hr => Sx.lk r (List.mem_append.mpr (.inl hr))).turn Sx.alive).1 hlt).1
  · obtain ⟨acc, vs, Sx, _⟩ := hP
    exact ((g2 (p :: A) H' (fun r hr => Sx.gh r (List.mem_append.mpr (.inl hr))) fun r hr => Sx.lk r (List.mem_append.mpr (.inl hr))).turn Sx.alive).2 (Nat.le_refl _)
  · obtain ⟨acc, vs, Sx, hk, hpv, ra, hal, hw'⟩ := hP
    obtain ⟨ex2, t, et, rt⟩ := (((g2 (p :: A) H' (fun r hr => Sx.gh r (List.mem_append.mpr (.inl hr))) fun r hr => Sx.lk r (List.mem_append.mpr (.inl hr))).turn Sx.alive).1 hlt).2 x H2 hy
    have bx := Beh.of_ext Sx ex2
    replace hk : Beh D H1 H2 := hk.trans bx
    replace hpv := bx.ext p _ hpD hpv
    replace ra := ra.mono (ext_da Sx.dA bx.ext)
    replace Sx := Sx.beh bx
    rw [List.drop_eq_getElem_cons hlt] at hw'
    have et' : ts[i] = t := by rw [List.getElem?_eq_getElem hlt] at et; exact Option.some.inj et
    rw [et'] at hw'
    obtain ⟨sl', e1, hw2⟩ := hw'
    refine sg g Sx rt e1 fun σ2 S2 c => ⟨?_, st F' D (p :: A) H2 σ2 sl' _ _ S2 hw2 fun b H3 b3 hx3 => ?_⟩
    · have h1 : L2.wipe σ2 vx = L2.wipe (L2.wipe σ vx) vx := wipe_eq c.len fun j hj => c.out j (fun z => hj (hin j z))
      have h2 : L2.wipe (L2.wipe σ vx) vx = L2.wipe σ vx := wipe_eq (L2.wipe_length _ _) fun j hj => wipe_get_out hj
      rw [h1, h2]
    · have S3 := S2.beh b3
      have hpv3 := b3.ext p _ hpD hpv
      have ra3 := ra.mono (ext_da S2.dA b3.ext)
      have S3' : Sta K F' D (p :: A) H3 (L2.wipe σ vx) (wipeS sl vx) := Sx.beh b3
      have hk3 : Beh D H1 H3 := hk.trans b3
      cases b with
      | false =>
        rw [if_neg Bool.false_ne_true] at hx3 ⊢
        exact ⟨acc, vs, S3', hk3, hpv3, ra3, by omega, hx3⟩
      | true =>
        rw [if_pos rfl] at hx3 ⊢
        refine ⟨F', D, p :: A, sl', _, S3, hx3, fun y H4 z b4 ok4 hz => ?_⟩
        obtain ⟨u, rfl, hz⟩ := hz
        have hpv4 := b4.ext p _ hpD hpv3
        have ra4 := ra3.mono (ext_da S3.dA b4.ext)
        have S4' := S3'.beh b4
        have hvl : vs.length = acc.length := ra.length
        have hpm : p ∈ p :: A := List.mem_cons_self
        refine ⟨vs, hpv4, Tr.sz_lt (by omega), acc ++ [u], vs ++ [y], S4'.write hpm (fun z => hpA (S1.sub p z)) hpD no0 (fun φ z => by rw [hpv4] at z; cases z), ⟨fun a o n e => ?_, fun d hd => ((hk3.trans b4).dice d hd).trans (Keep.upd (fun z => hpD (by rw [← z]; exact hd)) fun φ z => by rw [hpv4] at z; cases z)⟩, upd_same, (ra4.append (.cons ok4 .nil)).mono (Ext.mut hpm), by rw [List.length_append]; show acc.length + 1 ≤ i + 1; omega, hz⟩
        rw [upd_ne (ne_of_none e hp)]
        exact b4.ext a o n (hk3.ext a o n e)
  · obtain ⟨acc, vs, Sx, hk, hpv, ra, hal, hw'⟩ := hP
    rw [List.drop_length] at hw'
    exact q H' vs acc hk hpA hpv ra hw'

theorem sl_lc {wi : WI} {g : Tg} {wt : WT} {tt : TT} {we : WE} {vx : List Nat} (st : ST K tt wt) (hin : ∀ i ∈ g.is, i ∈ vx) : SL K (tLc (iOf K wi) (g.g K) tt (eOf K we) vx) (wLc wi g wt we vx) := fun F D A H σ sl P Q S hw q =>
  ⟨F, D, A, sl, _, S, hw, fun J H1 ts b1 io hx p hp => lc_core st hin (S.beh b1) io hx.1 hx.2 hp fun H' vs acc hk hpA hpv ra hP => q p H' vs acc (b1.trans hk) (fresh_back S.dice b1 hp) hpA hpv ra hP⟩
theorem gl_lc {elt tg iter : Expr} {ifs : List Expr} {scope : Scope} {own : List (Str × Nat)} {pos : Pos} {wi : WI} {g : Tg} {wt : WT} {tt : TT} {we : WE} (hc : X.calm = true) (hN : X.N.Nodup) (hi : GI X tg iter wi) (ok : BlkOk X.N X.env.scope scope own)
    (hg : ∀ (s : Shared) (H : Hp) (C : Addr) (cl : List (Str × Addr)) (fp : List Addr), PG (X.blk s H scope (compEnvC scope cl C X.env) fp) tg (g.g X.K)) (ht : ∀ (s : Shared) (H : Hp) (C : Addr) (cl : List (Str × Addr)) (fp : List Addr), PTs (X.blk s H scope (compEnvC scope cl C X.env) fp) ifs tt) (st : ST X.K tt wt)
    (he : ∀ (s : Shared) (H : Hp) (C : Addr) (cl : List (Str × Addr)) (fp : List Addr), PE (X.blk s H scope (compEnvC scope cl C X.env) fp) elt (eOf X.K we)) (hin : ∀ i ∈ g.is, i ∈ own.map (·.2)) (hs : ∀ x, foldedSetIterable iter X.env x = pure x) :
    GL X (.ListComp elt [⟨tg, iter, ifs, 0⟩] scope pos) (wLc wi g wt we (own.map (·.2))) := gl_of (pe_lc hc hN hi ok hg ht he hs) (sl_lc st hin)

/-! ### 12. statements -/
theorem gs_of {st : Stmt} {t : TS} {w : WS} (h : PS X st t) (s : ∀ E σ H, sOf X.K w E σ H → t E σ H) : GS X st w := ⟨fun pins sh σ H E I q => h.run pins sh σ H E I (s E σ H q)⟩
def wNext : WS := fun k sl => k.nx sl
def wSeq (a b : WS) : WS := fun k sl => a { k with nx := fun sl' => b k sl' } sl
theorem gss_nil : GSs X [] wNext := ⟨fun pins sh σ H E I ⟨F, D, A, sl, k, S, hw, q, _⟩ => pss_nil.run pins sh σ H E I (q D A H σ sl S hw)⟩
theorem gss_one {st : Stmt} {w : WS} (h : GS X st w) : GSs X [st] w := pss_one h
theorem gss_cons {st : Stmt} {rest : List Stmt} {a b : WS} (h : GS X st a) (h2 : GSs X rest b) : GSs X (st :: rest) (wSeq a b) := ⟨fun pins sh σ H E I ⟨F, D, A, sl, k, S, hw, q1, q2, q3, q4⟩ =>
  (pss_cons h h2).run pins sh σ H E I ⟨F, D, A, sl, { k with nx := fun sl' => b k sl' }, S, hw, fun D' A' H' σ' sl' S' hb => ⟨F, D', A', sl', k, S', hb, q1, q2, q3, q4⟩, q2, q3, q4⟩⟩
def storable : Sl → Bool
  | .val _ => true
  | .dice => true
  | _ => false
/-- x = e -/
def wAsg (e : WE) (i : Nat) : WS := fun k sl => e sl fun x => storable x = true ∧ k.nx (sl.set i x)
theorem storable_own {x : Sl} (h : storable x = true) : ∀ l ts, x ≠ .ob l ts := fun l ts z => by subst z; cases h
theorem gs_asg (i : Nat) {x : Str} {e : Expr} {w : WE} {p pos : Pos} (he : GE X e w) (hN : X.N.Nodup) (hi : X.N[i]? = some x := by rfl) (hx : Loc X.env.scope x := by first | exact Or.inl rfl | exact Or.inr rfl)
    (hf : X.fn x = true ∨ X.env.scope.names.lookup x = some .local := by first | exact .inl rfl | exact .inr rfl)
    (hs : swapsWithSole [.Name x p] e pos.line X.env = pure false := by rfl) (hw : swappedStores [.Name x p] e X.env = pure none := by rfl) (h1 : (assignEach [.Name x p] X.env).map (·.2) = [assign (.Name x p) X.env] := by rfl) :
    GS X (.Assign [.Name x p] e pos) (wAsg w i) := gs_of (ps_asg he (pg_name hN hi hx hf) hs hw h1) fun E σ H ⟨F, D, A, sl, k, S, hw, q1, _⟩ =>
  ⟨F, D, A, sl, _, S, hw, fun v H1 x b1 ok hx => q1 _ _ _ _ _ ((S.beh b1).set ok (storable_own hx.1)) hx.2⟩
/-- x = a new list that is changed later -/
def wOwn (e : WL) (i : Nat) : WS := fun k sl => e sl fun ts => ∀ l, k.nx (sl.set i (.own l ts))
theorem sta_ob {F : Fx} {D A : Avoid} {H H1 : Hp} {σ : L2.St} {sl : List Sl} {i : Nat} {p : Addr} {ow : OwnT} (S : Sta K F D A H σ sl) (b : Beh D H H1) (hp : H p = none) (hA : p ∉ A) (r : OwnAt K (p :: A) H1 p ow) :
    Sta K F D (p :: A) H1 (σ.set i (some (.ref p))) (sl.set i (.ob p ow)) := by
  obtain ⟨hu, hv⟩ := r.alive
  have S1 := S.beh b
  have hpD : p ∉ D := fun z => hA (S.dA p z)
  have hne : ∀ a o, H a = some o → a ≠ p := fun a o e z => by rw [z, hp] at e; cases e
  have S2 : Sta K F D (p :: A) H1 σ sl := by
    refine ⟨S1.dice, fun d hd => List.mem_cons_of_mem _ (S1.dA d hd), fun a ha => List.mem_cons_of_mem _ (S1.sub a ha), fun a ha => ?_, fun a ha => ?_, S1.dbase, S1.dsub, S1.keep, S1.tabs, S1.ext, ?_, S1.dist, fun q hq => ?_, fun q hq => ⟨fun z => (List.mem_cons.mp z).elim (fun z => hne q.1 _ (S.lk q hq).2 z) (S.lk q hq).1, (S1.lk q hq).2⟩⟩
    · rcases List.mem_cons.mp ha with z | z
      · subst z; rw [hv]; exact fun z => nomatch z
      · exact S1.alive a z
    · rcases List.mem_cons.mp ha with z | z
      · subst z; exact .inr (S.fresh0 hp)
      · exact S1.base a z
    · refine Paired.imp (fun o x q => ?_) S.slots
      rcases q with q | ⟨v, q1, q2⟩
      · exact .inl q
      · refine .inr ⟨v, q1, ?_⟩
        cases x with
        | any => trivial
        | val t => exact Rep.to (fun a o n e => ⟨fun z => by
            rcases List.mem_cons.mp z with z | z
            · exact hne a o e z
            · exact n z, b.ext a o (fun z => n (S.dA a z)) e⟩) q2
        | dice =>
          obtain ⟨d, h1, h2, h3⟩ := q2
          exact ⟨d, h1, h2, (b.dice d h2).1 h3⟩
        | ob l us =>
          obtain ⟨h1, h2, h3, h4, h5⟩ := q2
          refine ⟨h1, List.mem_cons_of_mem _ h2, h3, h4, h5.map (fun u q => b.ext l _ h4 q) fun _ _ h6 => h6.to fun a o n e => ⟨fun z => by
            rcases List.mem_cons.mp z with z | z
            · exact hne a o e z
            · exact n z, b.ext a o (fun z => n (S.dA a z)) e⟩⟩
    · exact Rep.to (fun a o n e => ⟨fun z => by
            rcases List.mem_cons.mp z with z | z
            · exact hne a o e z
            · exact n z, b.ext a o (fun z => n (S.dA a z)) e⟩) (S.gh q hq)
  have no : ∀ (j : Nat) (l' : Addr) (ts' : OwnT), sl[j]? = some (Sl.ob l' ts') → l' ≠ p := fun j l' us e z => by
    obtain ⟨v, _, ok⟩ := S.get e (fun z => nomatch z)
    obtain ⟨_, hl, _⟩ := ok
    exact hA (by rw [← z]; exact hl)
  have S3 := S2.set (i := i) (v := .ref p) (x := .any) trivial (fun _ _ z => nomatch z)
  have S4 := S3.putO (i := i) (l := p) (o := ow) (fun o e => ?_) List.mem_cons_self (fun z => hA (S.sub p z)) hpD r (fun j l' ts' hj e => ?_)
  · rw [List.set_set] at S4
    exact S4
  · by_cases hl : i < σ.length
    · rw [List.getElem?_set_self hl] at e
      exact (Option.some.inj e).symm
    · rw [List.getElem?_eq_none (by rw [List.length_set]; omega)] at e
      cases e
  · rcases set_own e with ⟨_, z⟩ | ⟨_, z⟩
    · cases z
    · exact no j l' ts' z
theorem sta_own {F : Fx} {D A : Avoid} {H H1 : Hp} {σ : L2.St} {sl : List Sl} {i : Nat} {p : Addr} {vs : List V} {ts : List T} (S : Sta K F D A H σ sl) (b : Beh D H H1) (hp : H p = none) (hA : p ∉ A) (hv : H1 p = some (.lst vs)) (r : RepAll K (p :: A) H1 vs ts) :
    Sta K F D (p :: A) H1 (σ.set i (some (.ref p))) (sl.set i (.own p ts)) := sta_ob (ow := .lst ts) S b hp hA ⟨vs, hv, r⟩
theorem gs_own (i : Nat) {x : Str} {e : Expr} {w : WL} {p pos : Pos} (he : GL X e w) (hN : X.N.Nodup) (hi : X.N[i]? = some x := by rfl) (hx : Loc X.env.scope x := by first | exact Or.inl rfl | exact Or.inr rfl)
    (hf : X.fn x = true ∨ X.env.scope.names.lookup x = some .local := by first | exact .inl rfl | exact .inr rfl)
    (hs : swapsWithSole [.Name x p] e pos.line X.env = pure false := by rfl) (hw : swappedStores [.Name x p] e X.env = pure none := by rfl) (h1 : (assignEach [.Name x p] X.env).map (·.2) = [assign (.Name x p) X.env] := by rfl) :
    GS X (.Assign [.Name x p] e pos) (wOwn w i) := gs_of (ps_asg he (pg_name hN hi hx hf) hs hw h1) fun E σ H ⟨F, D, A, sl, k, S, hw, q1, _⟩ =>
  ⟨F, D, A, sl, _, S, hw, fun l H1 vs ts b1 hp hA hv r hx => q1 _ _ _ _ _ (sta_own S b1 hp hA hv r) (hx l)⟩
def wPar (i j : Nat) (a : WA) : WS := fun k sl => a sl fun xs => ∃ x y, xs = [x, y] ∧ storable x = true ∧ storable y = true ∧ k.nx ((sl.set i x).set j y)
/-- x.append(e), x a list of one's own -/
def wApp (i : Nat) (e : WE) : WS := fun k sl => ∃ l ts, nth sl i = .own l ts ∧ ts.length < 1000000 ∧ e sl fun x => ∃ t, x = .val t ∧ k.nx (sl.set i (.own l (ts ++ [t])))
theorem nth_own {sl : List Sl} {i : Nat} {l : Addr} {ts : List T} (h : nth sl i = .own l ts) : sl[i]? = some (.own l ts) := by
  unfold nth at h
  cases e : sl[i]? with
  | none => rw [e] at h; cases h
  | some x => rw [e] at h; exact congrArg some h
theorem st_app {i : Nat} {w : WE} {E : Ends} {σ : L2.St} {H : Hp} : sOf K (wApp i w) E σ H → tDrop (tBM K "list" rAppend (tVar i) (tCons (eOf K w) tNil)) E σ H := fun ⟨F, D, A, sl, k, S, hw, q1, _⟩ => by
  obtain ⟨l, ts, hn, hz, hw⟩ := hw
  obtain ⟨u, hv, ok⟩ := S.get (nth_own hn) (fun z => nomatch z)
  obtain ⟨e, h1, h2, h3, vs, hl, h5⟩ := ok
  cases e
  refine ⟨.ref l, hv, .inl ⟨rfl, vs, .inl (.inl hl)⟩, F, D, A, sl, _, S, hw, fun v H1 x b1 ok hx => ?_⟩
  obtain ⟨t, rfl, hp⟩ := hx
  have S1 := S.beh b1
  have h4 := b1.ext l _ h3 hl
  have h6 := h5.mono (ext_da S.dA b1.ext)
  have hlen : vs.length = ts.length := h5.length
  exact ⟨l, vs, v, rfl, rfl, h4, Tr.sz_lt (by omega), q1 _ _ _ _ _ (S1.grow1 (nth_own hn) h4 (h6.append (.cons ok .nil))) hp⟩
theorem gs_app (i : Nat) {x : Str} {e : Expr} {w : WE} {p pos cpos apos : Pos} (he : GE X e w) (hN : X.N[i]? = some x := by rfl) (hv : Vis X.env.scope x := by first | exact Or.inl rfl | exact Or.inr (Or.inl rfl) | exact Or.inr (Or.inr rfl)) (hd : (x == ("__debug__" : Str)) = false := by decide)
    (hcd : (x == ("__classdict__" : Str)) = false := by decide) (hst : starEach (e :: []) X.env = (false, eval e X.env) :: starEach [] X.env := by rfl)
    (hbase : attributeBase (.Name x p) "append" X.env (eval (.Name x p) X.env) = eval (.Name x p) X.env := by rfl)
    (hfew : ((backTo cpos (starEach (e :: []) X.env)).all (fun x => !x.1) && (backToKw cpos (keywordEach [] X.env)).all (fun x => x.1.isSome)
      && decide ((e :: ([] : List Expr)).length + ([] : List Keyword).length + (if ([] : List Keyword).isEmpty then 0 else 1) < 30)) = true := by rfl)
    (hline : (apos.endLine == cpos.line) = true := by rfl) (hs : swapsWith (.Call (.Attribute (.Name x p) "append" apos) [e] [] cpos) none pos.line X.env = pure false := by rfl) :
    GS X (.Expr (.Call (.Attribute (.Name x p) "append" apos) [e] [] cpos) pos) (wApp i w) :=
  gs_of (ps_expr (pe_bm PySem.F.plainAttrs_list PySem.F.slot_list_append PySem.F.type_list_append mt_append (pe_var hN hv hd hcd) (pa_cons he pa_nil hst) (hbase := hbase) (hfew := hfew) (hline := hline) (hs := hst)) hs) fun E σ H h => st_app h
/-- x, a list of one's own, is changed no more -/
def wFrz (i : Nat) (w : WS) : WS := fun k sl => ∃ l ts, nth sl i = .own l ts ∧ w k (sl.set i (.val (.lst ts)))
theorem Sta.freeze {F : Fx} {D A : Avoid} {H : Hp} {σ : L2.St} {sl : List Sl} {i : Nat} {l : Addr} {ts : OwnT} (S : Sta K F D A H σ sl) (hi : sl[i]? = some (.ob l ts)) : Sta K F D (A.filter fun a => decide (a ≠ l)) H σ (sl.set i (.val ts.tree)) := by
  obtain ⟨u, hv, ok⟩ := S.get hi (fun z => nomatch z)
  obtain ⟨e, h1, h2, h3, h5⟩ := ok
  cases e
  have mem : ∀ a, a ∈ A.filter (fun a => decide (a ≠ l)) ↔ a ∈ A ∧ a ≠ l := fun a => by rw [List.mem_filter, decide_eq_true_eq]
  have sub : ∀ a, a ∈ A.filter (fun a => decide (a ≠ l)) → a ∈ A := fun a h => ((mem a).mp h).1
  refine ⟨S.dice, fun d hd => (mem d).mpr ⟨S.dA d hd, fun z => h3 (by rw [← z]; exact hd)⟩, fun a ha => (mem a).mpr ⟨S.sub a ha, fun z => h2 (by rw [← z]; exact ha)⟩, fun a ha => S.alive a (sub a ha), fun a ha => S.base a (sub a ha), S.dbase, S.dsub, S.keep, S.tabs, S.ext, ?_, S.dist.set (fun _ _ z => nomatch z), fun q hq => (S.gh q hq).sub fun a ha => sub a ha, fun q hq => ⟨fun z => (S.lk q hq).1 (sub _ z), (S.lk q hq).2⟩⟩
  have h0 : Slots K D F.A0 (A.filter fun a => decide (a ≠ l)) H σ (sl.set i .any) := by
    have all : ∀ (τ : L2.St) (ss : List Sl), Slots K D F.A0 A H τ ss → (∀ (j : Nat) (l' : Addr) (us : OwnT), ss[j]? = some (Sl.ob l' us) → l' ≠ l) → Slots K D F.A0 (A.filter fun a => decide (a ≠ l)) H τ ss := by
      intro τ ss r
      induction r with
      | nil => exact fun _ => .nil
      | @cons a b as bs q r ih =>
        intro no
        refine .cons ?_ (ih fun j l' ts e => no (j + 1) l' ts (by simpa using e))
        rcases q with q | ⟨v, q1, q2⟩
        · exact .inl q
        · refine .inr ⟨v, q1, ?_⟩
          cases b with
          | any => trivial
          | val t => exact Rep.sub (fun a ha => sub a ha) q2
          | dice => exact q2
          | ob l' ts =>
            obtain ⟨g1, g2, g3, g4, g5⟩ := q2
            exact ⟨g1, (mem l').mpr ⟨g2, no 0 l' ts rfl⟩, g3, g4, g5.map (fun u q => q) fun _ _ g6 => g6.sub fun a ha => sub a ha⟩
    refine all σ _ (S.forget i).slots fun j l' us e => ?_
    rcases set_own e with ⟨_, z⟩ | ⟨n, z⟩
    · cases z
    · exact S.dist j i l' l us ts z hi (fun z => n z.symm)
  have h6 := paired_set_right (y := Sl.val ts.tree) i h0 fun o e => .inr ⟨.ref l, by rw [hv] at e; exact (Option.some.inj e).symm, h5.rep (fun z => ((mem l).mp z).2 rfl) fun _ _ r => r.sub fun a ha => sub a ha⟩
  rw [List.set_set] at h6
  exact h6
theorem gss_frz (i : Nat) {sts : List Stmt} {w : WS} (h : GSs X sts w) : GSs X sts (wFrz i w) := ⟨fun pins sh σ H E I ⟨F, D, A, sl, k, S, hw, q1, q2, q3, q4⟩ => by
  obtain ⟨l, ts, hn, hw⟩ := hw
  exact h.run pins sh σ H E I ⟨F, D, _, _, k, S.freeze (nth_own hn), hw, q1, q2, q3, q4⟩⟩
/-! control -/
def wIf (c : WT) (a b : WS) : WS := fun k sl => c sl fun v => if v = true then a k sl else b k sl
theorem gs_if {c : Expr} {a b : List Stmt} {pos : Pos} {w : WT} {wa wb : WS} (hc : GT X c w) (ha : GSs X a wa) (hb : GSs X b wb) : GS X (.If c a b pos) (wIf w wa wb) := gs_of (ps_if hc ha hb) fun E σ H ⟨F, D, A, sl, k, S, hw, q⟩ =>
  ⟨F, D, A, sl, _, S, hw, fun v H1 b1 hx => by
    cases v with
    | true => exact ⟨F, D, A, sl, k, S.beh b1, hx, q⟩
    | false => exact ⟨F, D, A, sl, k, S.beh b1, hx, q⟩⟩
def wRet (e : WE) : WS := fun k sl => e sl k.rt
theorem gs_ret {e : Expr} {pos : Pos} {w : WE} (h : GE X e w) : GS X (.Return (some e) pos) (wRet w) := gs_of (ps_ret h) fun E σ H ⟨F, D, A, sl, k, S, hw, _, _, _, q4⟩ => ⟨F, D, A, sl, _, S, hw, fun v H1 x b1 ok hx => q4 _ _ _ _ _ _ _ (S.beh b1) ok hx⟩
def wRetN : WS := fun k _ => k.rt (.val .non)
def wNever : WS := fun _ _ => False
theorem gs_never {st : Stmt} : GS X st wNever := ⟨fun pins sh σ H E I ⟨F, D, A, sl, k, S, hw, _⟩ => hw.elim⟩
def wBrk : WS := fun k sl => k.bk sl
def wCnt : WS := fun k sl => k.ct sl
def wDrop (e : WE) : WS := fun k sl => e sl fun _ => k.nx sl
theorem gs_expr {e : Expr} {pos : Pos} {w : WE} (he : GE X e w) (hs : swapsWith e none pos.line X.env = pure false := by rfl) : GS X (.Expr e pos) (wDrop w) := gs_of (ps_expr he hs) fun E σ H ⟨F, D, A, sl, k, S, hw, q1, _⟩ => ⟨F, D, A, sl, _, S, hw, fun v H1 x b1 ok hx => q1 _ _ _ _ _ (S.beh b1) hx⟩
/-- a, b = e (a tuple) -/
def wAsgT (e : WE) (is : List Nat) : WS := fun k sl => e sl fun x => ∃ t sl', x = .val t ∧ (Tg.names is).st t sl = some sl' ∧ k.nx sl'
/-- x op= e, whole numbers -/
def wAug (f : Int → Int → Int) (i : Nat) (e : WE) : WS := fun k sl => ∃ a, nth sl i = .val (.int a) ∧ e sl fun x => ∃ b, x = .val (.int b) ∧ k.nx (sl.set i (.val (.int (f a b))))
theorem nth_val {sl : List Sl} {i : Nat} {x : Sl} (h : nth sl i = x) (hx : x ≠ .any) : sl[i]? = some x := by
  unfold nth at h
  cases e : sl[i]? with
  | none => rw [e] at h; exact absurd h.symm hx
  | some y => rw [e] at h; exact congrArg some h
/-! loops -/
def wForL (g : Tg) (b : WS) (k : Ks) : List T → List Sl → Prop
  | [], sl => k.nx sl
  | t :: r, sl => ∃ sl', g.st t sl = some sl' ∧ b { nx := fun s => wForL g b k r s, ct := fun s => wForL g b k r s, bk := k.nx, rt := k.rt } sl'
def wFor (wi : WI) (g : Tg) (b : WS) : WS := fun k sl => wi sl fun ts => wForL g b k ts sl
theorem for_core {F : Fx} {D A : Avoid} {H1 : Hp} {σ : L2.St} {sl : List Sl} {J : It} {ts : List T} {k : Ks} {E : Ends} {g : Tg} {b : WS} (S1 : Sta K F D A H1 σ sl) (io : ItOk K A H1 J ts) (hx : wForL g b k ts sl)
    (q1 : ∀ D' A' H' σ' sl', Sta K F D' A' H' σ' sl' → k.nx sl' → E.nx σ' H') (q4 : ∀ D' A' H' σ' sl' v x, Sta K F D' A' H' σ' sl' → SlOk K D' F.A0 A' H' v x → k.rt x → E.rt v H') :
    ∃ W : Nat → Nat → L2.St → Hp → Prop, (∃ m, W 0 m σ H1) ∧ ∀ i m σ H, W i m σ H →
      (J.stop i H ∧ E.nx σ H) ∨ (J.go i H ∧ ∃ N : L2.St → Hp → Prop, (∀ σ' H', N σ' H' → ∃ m', m' < m ∧ W (i + 1) m' σ' H') ∧ ∀ x H', J.yld i H x H' → g.g K x σ H' fun σ2 H2 => sOf K b { E with nx := N, ct := N, bk := E.nx } σ2 H2) := by
  obtain ⟨G, L, g1, g0, g2⟩ := io.held
  let F' : Fx := { F with G := G ++ F.G, L := L ++ F.L }
  have lkF : ∀ r ∈ F'.L, r.1 ∉ A ∧ H1 r.1 = some (.frz r.2.1 (.dK r.2.2)) := fun r hr => (List.mem_append.mp hr).elim (g0 r) (S1.lk r)
  have ghF : ∀ r ∈ F'.G, Rep K A H1 r.1 r.2 := fun r hr => by
    rcases List.mem_append.mp hr with z | z
    · exact g1 r z
    · exact S1.gh r z
  have SF : Sta K F' D A H1 σ sl := ⟨S1.dice, S1.dA, S1.sub, S1.alive, S1.base, S1.dbase, S1.dsub, S1.keep, S1.tabs, S1.ext, S1.slots, S1.dist, ghF, lkF⟩
  have back : ∀ {D' A' H' σ' sl'}, Sta K F' D' A' H' σ' sl' → Sta K F D' A' H' σ' sl' := fun S' => ⟨S'.dice, S'.dA, S'.sub, S'.alive, S'.base, S'.dbase, S'.dsub, S'.keep, S'.tabs, S'.ext, S'.slots, S'.dist, fun r hr => S'.gh r (List.mem_append.mpr (.inr hr)), fun r hr => S'.lk r (List.mem_append.mpr (.inr hr))⟩
  refine ⟨fun i m σ' H' => m = ts.length - i ∧ i ≤ ts.length ∧ ∃ D' A' sl', Sta K F' D' A' H' σ' sl' ∧ wForL g b k (ts.drop i) sl', ⟨ts.length, by simp, Nat.zero_le _, D, A, sl, SF, hx⟩, ?_⟩
  rintro i m σ' H' ⟨rfl, hi, D', A', sl', S', hw'⟩
  have io' := g2 A' H' (fun r hr => S'.gh r (List.mem_append.mpr (.inl hr))) fun r hr => S'.lk r (List.mem_append.mpr (.inl hr))
  by_cases hlt : i < ts.length
  · have tr := (io'.turn S'.alive).1 hlt
    refine .inr ⟨tr.1, fun σ2 H2 => ∃ D2 A2 sl2, Sta K F' D2 A2 H2 σ2 sl2 ∧ wForL g b k (ts.drop (i + 1)) sl2, fun σ2 H2 ⟨D2, A2, sl2, S2, h2⟩ => ⟨ts.length - (i + 1), by omega, rfl, hlt, D2, A2, sl2, S2, h2⟩, fun y H2 hy => ?_⟩
    obtain ⟨ex2, t, et, rt⟩ := tr.2 y H2 hy
    have bx := Beh.of_ext S' ex2
    replace S' := S'.beh bx
    rw [List.drop_eq_getElem_cons hlt] at hw'
    have et' : ts[i] = t := by rw [List.getElem?_eq_getElem hlt] at et; exact Option.some.inj et
    rw [et'] at hw'
    obtain ⟨sl2, e1, hb2⟩ := hw'
    refine sg g S' rt e1 fun σ2 S2 _ => ?_
    exact ⟨F', D', A', sl2, _, S2, hb2, fun D3 A3 H3 σ3 sl3 S3 h3 => ⟨D3, A3, sl3, S3, h3⟩, fun D3 A3 H3 σ3 sl3 S3 h3 => q1 _ _ _ _ _ (back S3) h3, fun D3 A3 H3 σ3 sl3 S3 h3 => ⟨D3, A3, sl3, S3, h3⟩, fun D3 A3 H3 σ3 sl3 v x S3 ok h3 => q4 _ _ _ _ _ _ _ (back S3) ok h3⟩
  · have e : i = ts.length := by omega
    subst e
    rw [List.drop_length] at hw'
    exact .inl ⟨(io'.turn S'.alive).2 (Nat.le_refl _), q1 _ _ _ _ _ (back S') hw'⟩
theorem gs_for {tg iter : Expr} {body : List Stmt} {wi : WI} {g : Tg} {b : WS} {pos : Pos} (hp : PassesOwn (model X.prog X.w) X.A X.env X.xe) (hc : X.calm = true) (hi : GI X tg iter wi) (hg : PG X tg (g.g X.K)) (hb : GSs X body b)
    (hs : ∀ x, foldedSetIterable iter X.env x = pure x := by intro _; rfl) : GS X (.For tg iter body [] pos) (wFor wi g b) := gs_of (ps_for hp hc hi hg hb hs) fun E σ H ⟨F, D, A, sl, k, S, hw, q1, q2, q3, q4⟩ =>
  ⟨F, D, A, sl, _, S, hw, fun J H1 ts b1 io hx => for_core (S.beh b1) io hx q1 q4⟩
def wLoop (c : WT) (b : WS) (k : Ks) : Nat → List Sl → Prop
  | 0, _ => False
  | n + 1, sl => c sl fun v => if v = true then b { nx := wLoop c b k n, ct := wLoop c b k n, bk := k.nx, rt := k.rt } sl else k.nx sl
def wWhile (c : WT) (b : WS) : WS := fun k sl => ∃ n, wLoop c b k n sl
theorem gs_while {c : Expr} {body : List Stmt} {w : WT} {b : WS} {pos : Pos} (hp : PassesOwn (model X.prog X.w) X.A X.env X.xe) (hc : GT X c w) (hb : GSs X body b) : GS X (.While c body [] pos) (wWhile w b) := gs_of (ps_while hp hc hb) fun E σ H ⟨F, D, A, sl, k, S, hw, q1, q2, q3, q4⟩ => by
  obtain ⟨n, hw⟩ := hw
  refine ⟨fun m σ' H' => ∃ D' A' sl', Sta X.K F D' A' H' σ' sl' ∧ wLoop w b k m sl', ⟨n, D, A, sl, S, hw⟩, fun m σ' H' ⟨D', A', sl', S', h'⟩ => ?_⟩
  cases m with
  | zero => exact h'.elim
  | succ m =>
    refine ⟨F, D', A', sl', _, S', h', fun v H1 b1 hx => ?_⟩
    cases v with
    | true =>
      rw [if_pos rfl] at hx ⊢
      exact ⟨fun σ2 H2 => ∃ D2 A2 sl2, Sta X.K F D2 A2 H2 σ2 sl2 ∧ wLoop w b k m sl2, fun σ2 H2 h => ⟨m, by omega, h⟩, F, D', A', sl', _, S'.beh b1, hx, fun D3 A3 H3 σ3 sl3 S3 h3 => ⟨D3, A3, sl3, S3, h3⟩, fun D3 A3 H3 σ3 sl3 S3 h3 => q1 _ _ _ _ _ S3 h3, fun D3 A3 H3 σ3 sl3 S3 h3 => ⟨D3, A3, sl3, S3, h3⟩, q4⟩
    | false =>
      rw [if_neg Bool.false_ne_true] at hx ⊢
      exact q1 _ _ _ _ _ (S'.beh b1) hx
/-! ### 13. a def -/
def retK (P : Sl → Prop) : Sl → Prop
  | .val t => P (.val t)
  | .ob _ (.lst ts) => P (.val (.lst ts))
  | .ob _ (.dct ks ts) => P (.val (.dct ks ts))
  | _ => False
def wDef (n m : Nat) (ws : WS) : WF := fun xs P => xs.length = n ∧ ws ⟨fun _ => P (.val .non), retK P, fun _ => False, fun _ => False⟩ (xs ++ List.replicate m .any)
end
section
variable {P : Program} {w : World} {K : PySem.W.Frag} {mg : Str → Option Value} {base : Heap}
theorem Paired.length_eq {α β : Type} {R : α → β → Prop} : ∀ {xs : List α} {ys : List β}, Paired R xs ys → xs.length = ys.length
  | _, _, .nil => rfl
  | _, _, .cons _ r => congrArg (· + 1) (Paired.length_eq r)
theorem start_sta {D A : Avoid} {H : Hp} {vs : List V} {xs : List Sl} {N : List Str} {m : Nat} (h1 : ∀ d ∈ D, MovAt H d) (h2 : ∀ d ∈ D, d ∈ A) (h3 : Liv D A H) (h4 : Paired (ArgOk K D A H) vs xs) (hm : N.length - vs.length = m) :
    Sta K ⟨D, A, H, [], []⟩ D A H (L2.start N vs) (xs ++ List.replicate m .any) where
  dice := h1
  dA := h2
  sub := fun _ h => h
  alive := h3.alive
  base := fun _ h => .inl h
  dbase := fun _ h => .inl h
  dsub := fun _ h => h
  keep := fun _ _ => Keep.refl
  tabs := h3.tabs
  ext := Ext.refl H
  slots := by
    unfold L2.start
    rw [hm]
    refine Paired.app ?_ ?_
    · clear hm
      induction h4 with
      | nil => exact .nil
      | @cons v x vs xs q r ih =>
        refine .cons (.inr ⟨v, rfl, ?_⟩) ih
        cases x with
        | val t => exact q
        | dice => exact q
        | any => trivial
        | ob l ts => exact q.elim
    · clear hm h4
      induction m with
      | zero => exact .nil
      | succ m ih => exact .cons (.inl rfl) ih
  dist := fun i j l l' ts ts' e1 e2 n => by
    have no : ∀ (vs : List V) (xs : List Sl), Paired (ArgOk K D A H) vs xs → ∀ x ∈ xs, x ≠ Sl.ob l ts := by
      intro vs xs r
      induction r with
      | nil => exact fun x hx => by cases hx
      | cons q r ih =>
        intro x hx z
        rcases List.mem_cons.mp hx with hx | hx
        · subst hx; subst z; exact q
        · exact ih x hx z
    rcases List.mem_append.mp (List.mem_of_getElem? e1) with hx | hx
    · exact absurd rfl (no vs xs h4 _ hx)
    · cases List.eq_of_mem_replicate hx
  gh := fun p hp => by cases hp
  lk := fun p hp => by cases hp
theorem fn_tree {x qual : Str} {params : Arguments} {body : List Stmt} {scope : Scope} {dvs : List V} {kws : List (Str × V)} {f : Addr} {fd : FuncData} {N ps : List Str} {k n m : Nat} {ws : WS} (F : FunD K x qual params body scope dvs kws f fd) (S : FnScope N ps scope) (hn : ps.length = n) (hm : N.length - n = m)
    (hb : ∀ (cdv : Value) (A : Around) (outer : List Env) (s : Shared) (H : Hp) (E : XK), Room k (A.deeper (envOfC qual scope s.heap.objs.size f cdv)) → GSs (cxOf CX0 P w K mg base N qual scope f cdv A outer s H E).nox body ws) :
    FnOk P w K mg base CX0 (k + 1) f fd ps (spT K (wDef n m ws)) := by
  refine F.ok S (fun vs H Q E h => ?_) (fun cdv A outer s H vs Q E hr h => ?_)
  · obtain ⟨D, A, xs, P', _, _, _, h4, h5, _⟩ := h
    rw [Paired.length_eq h4, h5.1, hn]
  · obtain ⟨D, A', xs, P', h1, h2, h3, h4, h5, q⟩ := h
    refine ⟨_, PSs.nox (hb cdv A outer s H E hr), ⟨D, A', H, [], []⟩, D, A', _, _, start_sta h1 h2 h3 h4 (m := m) (by rw [Paired.length_eq h4, h5.1]; exact hm), h5.2, fun D' A2 H' σ' sl' S' hx => ?_, fun _ _ _ _ _ _ z => z.elim, fun _ _ _ _ _ _ z => z.elim, fun D' A2 H' σ' sl' v x S' ok hx => ?_⟩
    · exact q .non H' (.val .non) ⟨S'.ext, S'.keep⟩ Rep.non hx
    · have be : Beh D H H' := ⟨S'.ext, S'.keep⟩
      cases x with
      | val t => exact q v H' (.val t) be (Rep.sub S'.sub ok) hx
      | ob l ts =>
        obtain ⟨rfl, g1, g2, g3, g4⟩ := ok
        cases ts with
        | lst ts => exact q (.ref l) H' (.val (.lst ts)) be (g4.rep (o := .lst ts) g2 fun _ _ r => r.sub S'.sub) hx
        | dct ks ts => exact q (.ref l) H' (.val (.dct ks ts)) be (g4.rep (o := .dct ks ts) g2 fun _ _ r => r.sub S'.sub) hx
      | any => exact hx.elim
      | dice => exact hx.elim
end
end Tr


set_option Elab.async false
set_option linter.all false
set_option maxRecDepth 100000
set_option maxHeartbeats 0
namespace Tr
open PySem PySem.Spec PyProof.Rows L2
variable [Tabl]
/-! ### 14. defs by name -/
/-- a def of one's own stands under x and keeps wf; dvs: the defaults that a caller leaves out -/
def CallD (P : Program) (w : World) (K : PySem.W.Frag) (mg : Str → Option Value) (base : Heap) (k : Nat) (x : Str) (wf : WF) (dvs : List V) : Prop :=
  ∃ (f : Addr) (fd : FuncData) (ps : List Str) (ds : List Value), FnOk P w K mg base CX0 k f fd ps (spT K wf) ∧ mg x = some (.ref f) ∧ PySem.W.keepIn K (.ref f) = true ∧ Binds K fd ps ds ∧ Vals dvs ds
section
variable {X : Cx}
theorem ge_callD {j k : Nat} {wf : WF} {dvs : List V} {dts : List T} {x : Str} {e : Expr} {es : List Expr} {a : WA} {p pos : Pos} (d : CallD X.prog X.w X.K X.mg X.base k x wf dvs) (hr : Room j X.A) (hg : Gl X x) (hc : CTs dvs dts)
    (ha : GA X (e :: es) a) (hkj : k ≤ j := by decide) (hdb : (x == ("__debug__" : Str)) = false := by decide) (he : starEach (e :: es) X.env = (false, eval e X.env) :: starEach es X.env := by rfl) (hpl : (backTo pos (starEach es X.env)).any (·.1) = false := by rfl) :
    GE X (.Call (.Name x p) (e :: es) [] pos) (wCall wf dts a) := by
  obtain ⟨f, fd, ps, ds, F, hm, hk, hb, hd⟩ := d
  exact ge_call F (hr.mono hkj) hg hm hk hb hd hc ha hdb he hpl
theorem ge_callD0 {j k : Nat} {wf : WF} {dvs : List V} {dts : List T} {x : Str} {p pos : Pos} (d : CallD X.prog X.w X.K X.mg X.base k x wf dvs) (hr : Room j X.A) (hg : Gl X x) (hc : CTs dvs dts)
    (hkj : k ≤ j := by decide) (hdb : (x == ("__debug__" : Str)) = false := by decide) :
    GE X (.Call (.Name x p) [] [] pos) (wCall wf dts waNil) := by
  obtain ⟨f, fd, ps, ds, F, hm, hk, hb, hd⟩ := d
  exact ge_call0 F (hr.mono hkj) hg hm hk hb hd hc hdb
end
section
variable {P : Program} {w : World} {K : PySem.W.Frag} {mg : Str → Option Value} {base : Heap} {x qual : Str} {params : Arguments} {body : List Stmt} {scope : Scope} {dvs : List V} {kws : List (Str × V)} {f : Addr} {fd : FuncData} {ps : List Str} {k : Nat} {wf : WF}
/-- no defaults -/
theorem CallD.of (F : FunD K x qual params body scope [] kws f fd) (G : FnOk P w K mg base CX0 k f fd ps (spT K wf)) (hm : mg x = some (.ref f))
    (h : ∀ (kV doc pm : Value) (an : Option Addr) (cdv ct : Value) (us : List Value), us.length = ps.length → bindArgs (PySem.W.fnOf x qual params body scope .none kV doc pm an cdv ct) ⟨us, []⟩ = pure (ps.zip us)) : CallD P w K mg base k x wf [] :=
  ⟨f, fd, ps, [], G, hm, F.kp, F.bindsN h, .nil⟩
/-- n arguments are given, j of the defaults with them -/
theorem CallD.dfl (F : FunD K x qual params body scope dvs kws f fd) (G : FnOk P w K mg base CX0 k f fd ps (spT K wf)) (hm : mg x = some (.ref f)) (n j : Nat) (hd : dvs ≠ []) (hn : n + (dvs.length - j) = ps.length)
    (h : ∀ (T : Addr) (kV doc pm : Value) (an : Option Addr) (cdv ct : Value) (us its : List Value), us.length = n → its.length = dvs.length →
      ∃ k, bindArgs (PySem.W.fnOf x qual params body scope (.ref T) kV doc pm an cdv ct) ⟨us, []⟩ = seqItems? (.ref T) >>= k ∧ k (some its.toArray) = pure (ps.zip (us ++ its.drop j))) : CallD P w K mg base k x wf (dvs.drop j) := by
  obtain ⟨ds, h1, h2⟩ := F.binds1 n j hd hn h
  exact ⟨f, fd, ps, ds, G, hm, F.kp, h2, h1⟩
end

/-! ### 15. the dice -/
section
variable {X : Cx} {K : PySem.W.Frag}
theorem Sta.growDice {F : Fx} {D A : Avoid} {H H1 : Hp} {σ : L2.St} {sl : List Sl} {i : Nat} {p : Addr} {a b c : Int} (S : Sta K F D A H σ sl) (be : Beh D H H1) (hp : H p = none) (hA : p ∉ A) (hv : H1 p = some (.lst [.int a, .int b, .int c])) :
    Sta K F (p :: D) (p :: A) H1 (σ.set i (some (.ref p))) (sl.set i .dice) := by
  have S1 := sta_own (i := i) (ts := [.int a, .int b, .int c]) S be hp hA hv (.cons (.int a) (.cons (.int b) (.cons (.int c) .nil)))
  have S2 := S1.forget i
  rw [List.set_set] at S2
  have S3 : Sta K F (p :: D) (p :: A) H1 (σ.set i (some (.ref p))) (sl.set i .any) := by
    refine ⟨fun d hd => ?_, fun d hd => ?_, S2.sub, S2.alive, S2.base, fun d hd => ?_, fun d hd => List.mem_cons_of_mem _ (S2.dsub d hd), S2.keep, S2.tabs, S2.ext, ?_, S2.dist, S2.gh, S2.lk⟩
    · rcases List.mem_cons.mp hd with z | z
      · subst z; exact .inl ⟨a, b, c, hv⟩
      · exact S2.dice d z
    · rcases List.mem_cons.mp hd with z | z
      · subst z; exact List.mem_cons_self
      · exact S2.dA d z
    · rcases List.mem_cons.mp hd with z | z
      · subst z; exact .inr (S.fresh0 hp)
      · exact S2.dbase d z
    · have all : ∀ (τ : L2.St) (ss : List Sl), Slots K D F.A0 (p :: A) H1 τ ss → (∀ (j : Nat) (l' : Addr) (us : OwnT), ss[j]? = some (Sl.ob l' us) → l' ≠ p) → Slots K (p :: D) F.A0 (p :: A) H1 τ ss := by
        intro τ ss r
        induction r with
        | nil => exact fun _ => .nil
        | @cons a b as bs q r ih =>
          intro no
          refine .cons ?_ (ih fun j l' ts e => no (j + 1) l' ts (by simpa using e))
          rcases q with q | ⟨v, q1, q2⟩
          · exact .inl q
          · refine .inr ⟨v, q1, ?_⟩
            cases b with
            | any => trivial
            | val t => exact q2
            | dice =>
              obtain ⟨d, e, hd, h4⟩ := q2
              exact ⟨d, e, List.mem_cons_of_mem _ hd, h4⟩
            | ob l' ts =>
              obtain ⟨g1, g2, g3, g4, g5⟩ := q2
              exact ⟨g1, g2, g3, fun z => by
                rcases List.mem_cons.mp z with z | z
                · exact no 0 l' ts rfl z
                · exact g4 z, g5⟩
      refine all _ _ S2.slots fun j l' us e z => ?_
      rcases set_own e with ⟨_, z'⟩ | ⟨_, e'⟩
      · cases z'
      · obtain ⟨v, _, ok⟩ := S.get e' (fun z => nomatch z)
        obtain ⟨_, hl, _⟩ := ok
        exact hA (by rw [← z]; exact hl)
  have ho : ∀ o, (σ.set i (some (V.ref p)))[i]? = some o → o = some (V.ref p) := fun o e => by
    by_cases hl : i < σ.length
    · rw [List.getElem?_set_self hl] at e
      exact (Option.some.inj e).symm
    · rw [List.getElem?_eq_none (by rw [List.length_set]; omega)] at e
      cases e
  have S4 : Sta K F (p :: D) (p :: A) H1 (σ.set i (some (.ref p))) ((sl.set i .any).set i .dice) :=
    { S3 with
      slots := paired_set_right i S3.slots fun o e => .inr ⟨.ref p, ho o e, p, rfl, List.mem_cons_self, a, b, c, hv⟩
      dist := S3.dist.set fun _ _ z => nomatch z }
  rw [List.set_set] at S4
  exact S4
/-- a call that makes new dice -/
def spD (K : PySem.W.Frag) (pre : List Sl → Prop) : Sp := fun vs H Q _ => ∃ D A xs, (∀ d ∈ D, MovAt H d) ∧ (∀ d ∈ D, d ∈ A) ∧ Liv D A H ∧ Paired (ArgOk K D A H) vs xs ∧ pre xs ∧ ∀ p H' a b c, Beh D H H' → H p = none → p ∉ A → H' p = some (.lst [.int a, .int b, .int c]) → Q (.ref p) H'
def DiceD (P : Program) (w : World) (K : PySem.W.Frag) (mg : Str → Option Value) (base : Heap) (k : Nat) (x : Str) (pre : List Sl → Prop) : Prop :=
  ∃ (f : Addr) (fd : FuncData) (ps : List Str), FnOk P w K mg base CX0 k f fd ps (spD K pre) ∧ mg x = some (.ref f) ∧ PySem.W.keepIn K (.ref f) = true ∧ Binds K fd ps []
def wDice (pre : List Sl → Prop) (a : WA) (i : Nat) : WS := fun k sl => a sl fun xs => xs.all isArg = true ∧ pre xs ∧ k.nx (sl.set i .dice)
theorem gs_dice (i : Nat) {j k : Nat} {pre : List Sl → Prop} {x y : Str} {e : Expr} {es : List Expr} {a : WA} {p q pos pos' : Pos} (d : DiceD X.prog X.w X.K X.mg X.base k x pre) (hr : Room j X.A) (hg : Gl X x) (ha : GA X (e :: es) a) (hN : X.N.Nodup) (hkj : k ≤ j := by decide)
    (hi : X.N[i]? = some y := by rfl) (hx : Loc X.env.scope y := by first | exact Or.inl rfl | exact Or.inr rfl) (hf : X.fn y = true ∨ X.env.scope.names.lookup y = some .local := by first | exact .inl rfl | exact .inr rfl)
    (hdb : (x == ("__debug__" : Str)) = false := by decide) (he : starEach (e :: es) X.env = (false, eval e X.env) :: starEach es X.env := by rfl) (hpl : (backTo pos (starEach es X.env)).any (·.1) = false := by rfl)
    (hs : swapsWithSole [.Name y q] (.Call (.Name x p) (e :: es) [] pos) pos'.line X.env = pure false := by rfl) (hw : swappedStores [.Name y q] (.Call (.Name x p) (e :: es) [] pos) X.env = pure none := by rfl) (h1 : (assignEach [.Name y q] X.env).map (·.2) = [assign (.Name y q) X.env] := by rfl) :
    GS X (.Assign [.Name y q] (.Call (.Name x p) (e :: es) [] pos) pos') (wDice pre a i) := by
  obtain ⟨f, fd, ps, F, hm, hk, hb⟩ := d
  refine gs_of (ps_asg (pe_call F (hr.mono hkj) hg hm hk hb .nil pass0 ha hdb he hpl) (pg_name hN hi hx hf) hs hw h1) fun E σ H ⟨F', D, A, sl, k, S, hw, q1, _⟩ => ?_
  refine ⟨F', D, A, sl, _, S, hw, fun vs H1 xs b1 oks hx => ?_⟩
  obtain ⟨e1, hp, hn⟩ := hx
  have S1 := S.beh b1
  refine ⟨D, A, xs, S1.dice, S1.dA, S1.liv, by rw [List.append_nil]; exact args_ok oks e1, hp, fun p H' a b c be hpn hpA hv => ?_⟩
  exact q1 _ _ _ _ _ (S1.growDice be hpn hpA hv) hn
/-- a body whose last row returns a new list -/
def rOf (K : PySem.W.Frag) (w : List Sl → (List T → Prop) → Prop) : TS := fun E σ H => ∃ F D A sl P, Sta K F D A H σ sl ∧ w sl P ∧ ∀ p H' D' A' vs ts, Beh F.D0 F.H0 H' → F.H0 p = none → (∀ a ∈ F.A0, a ∈ A') → p ∉ A' → H' p = some (.lst vs) → RepAll K (p :: A') H' vs ts → P ts → D' = F.D0 → E.rt (.ref p) H'
abbrev GR (X : Cx) (sts : List Stmt) (w : List Sl → (List T → Prop) → Prop) : Prop := PSs X sts (rOf X.K w)
theorem gr_ret {e : Expr} {pos : Pos} {w : WL} (h : GL X e w) : GR X [.Return (some e) pos] w := ⟨fun pins sh σ H E I ⟨F, D, A, sl, P, S, hw, q⟩ => (pss_one (ps_ret h)).run pins sh σ H E I ⟨F, D, A, sl, _, S, hw, fun p H' vs ts b hp hA hv r hP => by
  have S1 := S.beh b
  exact q p H' F.D0 A vs ts ⟨S1.ext, S1.keep⟩ (S.fresh0 hp) S1.sub hA hv r hP rfl⟩⟩
def wrSeq (a : WS) (b : List Sl → (List T → Prop) → Prop) : List Sl → (List T → Prop) → Prop := fun sl P => a ⟨fun sl' => b sl' P, fun _ => False, fun _ => False, fun _ => False⟩ sl
theorem gr_cons {st : Stmt} {rest : List Stmt} {a : WS} {b : List Sl → (List T → Prop) → Prop} (h : GS X st a) (h2 : GR X rest b) : GR X (st :: rest) (wrSeq a b) := ⟨fun pins sh σ H E I ⟨F, D, A, sl, P, S, hw, q⟩ =>
  (pss_cons h h2).run pins sh σ H E I ⟨F, D, A, sl, _, S, hw, fun D' A' H' σ' sl' S' hb => ⟨F, D', A', sl', P, S', hb, q⟩, fun _ _ _ _ _ _ z => z.elim, fun _ _ _ _ _ _ z => z.elim, fun _ _ _ _ _ _ _ _ _ z => z.elim⟩⟩
end
section
variable {P : Program} {w : World} {K : PySem.W.Frag} {mg : Str → Option Value} {base : Heap}
theorem fn_dice {x qual : Str} {params : Arguments} {body : List Stmt} {scope : Scope} {dvs : List V} {kws : List (Str × V)} {f : Addr} {fd : FuncData} {N ps : List Str} {k n m : Nat} {ws : List Sl → (List T → Prop) → Prop} {pre : List Sl → Prop} (F : FunD K x qual params body scope dvs kws f fd) (S : FnScope N ps scope) (hn : ps.length = n) (hm : N.length - n = m)
    (hb : ∀ (cdv : Value) (A : Around) (outer : List Env) (s : Shared) (H : Hp) (E : XK), Room k (A.deeper (envOfC qual scope s.heap.objs.size f cdv)) → GR (cxOf CX0 P w K mg base N qual scope f cdv A outer s H E).nox body ws)
    (hp : ∀ xs, pre xs → xs.length = n ∧ ws (xs ++ List.replicate m .any) fun ts => ∃ a b c : Int, ts = [.int a, .int b, .int c]) :
    FnOk P w K mg base CX0 (k + 1) f fd ps (spD K pre) := by
  refine F.ok S (fun vs H Q E h => ?_) (fun cdv A outer s H vs Q E hr h => ?_)
  · obtain ⟨D, A, xs, _, _, _, h4, h5, _⟩ := h
    rw [Paired.length_eq h4, (hp xs h5).1, hn]
  · obtain ⟨D, A', xs, h1, h2, h3, h4, h5, q⟩ := h
    obtain ⟨hl, h6⟩ := hp xs h5
    refine ⟨_, PSs.nox (hb cdv A outer s H E hr), ⟨D, A', H, [], []⟩, D, A', _, _, start_sta h1 h2 h3 h4 (m := m) (by rw [Paired.length_eq h4, hl]; exact hm), h6, fun p H' D' A2 vs' ts g1 g3 g4 g5 g6 g7 g8 _ => ?_⟩
    obtain ⟨a, b, c, rfl⟩ := g8
    have e : vs' = [.int a, .int b, .int c] := by
      cases g7 with | cons r1 g7 => cases g7 with | cons r2 g7 => cases g7 with | cons r3 g7 =>
        cases g7
        cases r1
        cases r2
        cases r3
        rfl
    rw [e] at g6
    exact q p H' a b c g1 g3 (fun z => g5 (g4 p z)) g6
theorem CallD.mono {k : Nat} {x : Str} {wf wf' : WF} {dvs : List V} (d : CallD P w K mg base k x wf dvs) (h : ∀ xs Q, wf' xs Q → wf xs Q) : CallD P w K mg base k x wf' dvs := by
  obtain ⟨f, fd, ps, ds, F, r⟩ := d
  refine ⟨f, fd, ps, ds, F.imp fun vs H Q E q => ?_, r⟩
  obtain ⟨D, A, xs, P', h1, h2, h3, h4, h5, h6⟩ := q
  exact ⟨D, A, xs, P', h1, h2, h3, h4, h _ _ h5, h6⟩
/-! one roll -/
def wRoll : WF := fun xs P => ∃ n : Int, xs = [.dice, .val (.int n)] ∧ 0 < n ∧ n.natAbs.log2 < 9000 ∧ ∀ r : Int, 0 ≤ r → r < n → P (.val (.int r))
end
section
variable {X : Cx} {K : PySem.W.Frag}
/-- dice[j] -/
def wDix (i : Nat) : WE := fun sl P => nth sl i = .dice ∧ ∀ n : Int, P (.val (.int n))
theorem ge_dix (i : Nat) {x : Str} {p p2 pos : Pos} {j : Nat} {kk} (hj : j < 3) (hN : X.N[i]? = some x := by rfl) (hv : Vis X.env.scope x := by first | exact Or.inl rfl | exact Or.inr (Or.inl rfl) | exact Or.inr (Or.inr rfl)) (hd : (x == ("__debug__" : Str)) = false := by decide)
    (hcd : (x == ("__classdict__" : Str)) = false := by decide) (hs : PlainIx (.Constant (.int (j : Nat)) kk p2) := by exact fun _ _ => rfl) : GE X (.Subscript (.Name x p) (.Constant (.int (j : Nat)) kk p2) pos) (wDix i) := ge_of (pe_ix ix_list (pe_var hN hv hd hcd) pe_int hs) fun F D A H σ sl P Q S hw q => by
  obtain ⟨hn, hw⟩ := hw
  obtain ⟨u, hu, ok⟩ := S.get (nth_val hn (fun z => nomatch z)) (fun z => nomatch z)
  obtain ⟨d, rfl, hdD, a, b, c, hH⟩ := ok
  have fin : ∀ n : Int, Q (.int n) H := fun n => q (.int n) H (.val (.int n)) (Beh.refl S) (Rep.int n) (hw n)
  match j, hj with
  | 0, _ => exact ⟨.ref d, hu, d, _, 0, .int a, rfl, rfl, .inl (.inl hH), atI_nat (j := 0) rfl, fin a⟩
  | 1, _ => exact ⟨.ref d, hu, d, _, 1, .int b, rfl, rfl, .inl (.inl hH), atI_nat (j := 1) rfl, fin b⟩
  | 2, _ => exact ⟨.ref d, hu, d, _, 2, .int c, rfl, rfl, .inl (.inl hH), atI_nat (j := 2) rfl, fin c⟩
/-- dice[j] = e -/
def wDst (i : Nat) (e : WE) : WS := fun k sl => nth sl i = .dice ∧ e sl fun x => ∃ n : Int, x = .val (.int n) ∧ k.nx sl
theorem Sta.roll {F : Fx} {D A : Avoid} {H : Hp} {σ : L2.St} {sl : List Sl} {d : Addr} {a b c : Int} (S : Sta K F D A H σ sl) (hd : d ∈ D) (hH : DiceAt H d) : Sta K F D A (upd H d (.lst [.int a, .int b, .int c])) σ sl :=
  S.beh ⟨Ext.mut hd, fun e he => by
    obtain ⟨x, y, w, h⟩ := hH
    by_cases z : e = d
    · subst z; exact ⟨fun _ => ⟨a, b, c, upd_same⟩, fun q _ ⟨ps, t1, _⟩ => by rw [h] at t1; cases t1⟩
    · exact Keep.upd z fun φ z => by rw [h] at z; cases z⟩
theorem gs_dst (i : Nat) {x : Str} {e : Expr} {w : WE} {p p2 p3 pos : Pos} {j : Nat} {kk} (hj : j < 3) (he : GE X e w) (hN : X.N[i]? = some x := by rfl) (hv : Vis X.env.scope x := by first | exact Or.inl rfl | exact Or.inr (Or.inl rfl) | exact Or.inr (Or.inr rfl)) (hd : (x == ("__debug__" : Str)) = false := by decide)
    (hcd : (x == ("__classdict__" : Str)) = false := by decide)
    (ha : ∀ v, assign (.Subscript (.Name x p) (.Constant (.int (j : Nat)) kk p2) p3) X.env v = (do
      let ov ← holding [v] (eval (.Name x p) X.env)
      let iv ← holding [v, ov] (eval (.Constant (.int (j : Nat)) kk p2) X.env)
      standAt p3
      holding [v, ov, iv] (setItem ov iv v)
      release [v, ov, iv] []) := by intro _; rfl)
    (hs : swapsWithSole [.Subscript (.Name x p) (.Constant (.int (j : Nat)) kk p2) p3] e pos.line X.env = pure false := by rfl) (hw : swappedStores [.Subscript (.Name x p) (.Constant (.int (j : Nat)) kk p2) p3] e X.env = pure none := by rfl) (h1 : (assignEach [.Subscript (.Name x p) (.Constant (.int (j : Nat)) kk p2) p3] X.env).map (·.2) = [assign (.Subscript (.Name x p) (.Constant (.int (j : Nat)) kk p2) p3) X.env] := by rfl) :
    GS X (.Assign [.Subscript (.Name x p) (.Constant (.int (j : Nat)) kk p2) p3] e pos) (wDst i w) := gs_of (ps_asg he (pg_sub (pe_var hN hv hd hcd) pe_int set_list ha) hs hw h1) fun E σ H ⟨F, D, A, sl, k, S, hw, q1, _⟩ => by
  obtain ⟨hn, hw⟩ := hw
  refine ⟨F, D, A, sl, _, S, hw, fun v H1 x b1 ok hx => ?_⟩
  obtain ⟨n, rfl, hp⟩ := hx
  cases ok
  have S1 := S.beh b1
  obtain ⟨u, hu, ok⟩ := S1.get (nth_val hn (fun z => nomatch z)) (fun z => nomatch z)
  obtain ⟨d, rfl, hdD, a, b, c, hH⟩ := ok
  match j, hj with
  | 0, _ => exact ⟨.ref d, hu, d, _, 0, 0, rfl, rfl, hH, rfl, q1 _ _ _ _ _ (S1.roll hdD ⟨_, _, _, hH⟩) hp⟩
  | 1, _ => exact ⟨.ref d, hu, d, _, 1, 1, rfl, rfl, hH, rfl, q1 _ _ _ _ _ (S1.roll hdD ⟨_, _, _, hH⟩) hp⟩
  | 2, _ => exact ⟨.ref d, hu, d, _, 2, 2, rfl, rfl, hH, rfl, q1 _ _ _ _ _ (S1.roll hdD ⟨_, _, _, hH⟩) hp⟩
end
end Tr


set_option Elab.async false
set_option linter.all false
set_option maxRecDepth 100000
set_option maxHeartbeats 0
namespace Tr
open PySem PySem.Spec PyProof.Rows L2
variable [Tabl]
section
variable {X : Cx} {K : PySem.W.Frag}
/-! ### 17. x, y = e, f where a list of one's own is born -/
def wParVO (i j : Nat) (a : WE) (w : WL) : WS := fun k sl => a sl fun x => storable x = true ∧ w sl fun ts => ∀ l, k.nx ((sl.set i x).set j (.own l ts))
def wParOV (i j : Nat) (w : WL) (a : WE) : WS := fun k sl => w sl fun ts => a sl fun x => storable x = true ∧ ∀ l, k.nx ((sl.set i (.own l ts)).set j x)
def wParOO (i j : Nat) (w v : WL) : WS := fun k sl => w sl fun ts => v sl fun us => ∀ l m, k.nx ((sl.set i (.own l ts)).set j (.own m us))
theorem sta_grow {F : Fx} {D A : Avoid} {H H1 : Hp} {σ : L2.St} {sl : List Sl} {p : Addr} {vs : List V} {ts : List T} (S : Sta K F D A H σ sl) (b : Beh D H H1) (hp : H p = none) (hA : p ∉ A) (hv : H1 p = some (.lst vs)) (r : RepAll K (p :: A) H1 vs ts) : Sta K F D (p :: A) H1 σ sl := by
  have h := sta_own (i := σ.length + sl.length) S b hp hA hv r
  rw [List.set_eq_of_length_le (by omega), List.set_eq_of_length_le (by omega)] at h
  exact h
theorem gs_parOO (i j : Nat) {x y : Str} {a b : Expr} {w v : WL} {px py pt pos : Pos} {kt k2 pt2} (hc : X.calm = true) (hN : X.N.Nodup) (hi : X.N[i]? = some x) (hj : X.N[j]? = some y) (hij : i ≠ j)
    (hx : X.env.scope.names.lookup x = some .local) (hy : X.env.scope.names.lookup y = some .local) (ha : GL X a w) (hb : GL X b v)
    (hw : swappedStores [.Tuple [.Name x px, .Name y py] kt pt] (.Tuple [a, b] k2 pt2) X.env = pure (some [x, y])) (h1 : starEach [a, b] X.env = (false, eval a X.env) :: starEach [b] X.env := by rfl) (h2 : starEach [b] X.env = (false, eval b X.env) :: starEach [] X.env := by rfl)
    (hs : swapsWithSole [.Tuple [.Name x px, .Name y py] kt pt] (.Tuple [a, b] k2 pt2) pos.line X.env = pure false := by rfl) :
    GS X (.Assign [.Tuple [.Name x px, .Name y py] kt pt] (.Tuple [a, b] k2 pt2) pos) (wParOO i j w v) := gs_of (ps_par hc hN hi hj hij hx hy (pa_cons ha (pa_cons hb pa_nil h2) h1) hw hs) fun E σ H h => by
  obtain ⟨F, D, A, sl, k, S, hw, q1, _⟩ := h
  refine ⟨F, D, A, sl, _, S, hw, fun p H1 vs ts b1 hp hA hv r hx => ?_⟩
  refine ⟨F, D, p :: A, sl, _, sta_grow S b1 hp hA hv r, hx, fun p2 H2 vs2 ts2 b2 hp2 hA2 hv2 r2 hx2 => ?_⟩
  exact ⟨_, _, rfl, q1 _ _ _ _ _ (sta_own (i := j) (sta_own (i := i) S b1 hp hA hv r) b2 hp2 hA2 hv2 r2) (hx2 p p2)⟩
/-! ### 18. the greatest, the least of a list or a tuple of whole numbers -/
def oneOf (x : Sl) (ns : List Int) : Prop := x.tree = some (.lst (ns.map T.int)) ∨ x.tree = some (.tup (ns.map T.int))
def wMaxA (w : WA) : WE := fun sl P => w sl fun xs => ∃ (x : Sl) (ns : List Int), xs = [x] ∧ oneOf x ns ∧ 0 < ns.length ∧ ∀ m, m ∈ ns → (∀ y, y ∈ ns → y ≤ m) → P (.val (.int m))
def wMinA (w : WA) : WE := fun sl P => w sl fun xs => ∃ (x : Sl) (ns : List Int), xs = [x] ∧ oneOf x ns ∧ 0 < ns.length ∧ ∀ m, m ∈ ns → (∀ y, y ∈ ns → m ≤ y) → P (.val (.int m))
/-! ### 19. xs[i] = e, xs a list of one's own -/
def wSto (i : Nat) (ix e : WE) : WS := fun k sl => ∃ l ts, nth sl i = .own l ts ∧ e sl fun x => ∃ t, x = .val t ∧ ix sl fun y => ∃ (n : Int) (j : Nat), y = .val (.int n) ∧ ixN ts.length n = some j ∧ k.nx (sl.set i (.own l (ts.set j t)))
end
end Tr


set_option Elab.async false
set_option linter.all false
set_option maxRecDepth 100000
set_option maxHeartbeats 0
/-! Instances of the program's own classes: made, read, compared, told. -/
namespace Tr
open PySem PySem.Spec PyProof.Rows L2
variable [Tabl]

/-! ### 1. a field -/
section
variable {K : PySem.W.Frag} {A : Avoid} {H : Hp}
end
section
variable {X : Cx} {K : PySem.W.Frag}
def wFld (C : Addr) (f : Str) (a : WE) : WE := fun sl P => a sl fun x => ∃ ns ts t, x = .val (.ins C ns ts) ∧ (ns.zip ts).lookup f = some t ∧ P (.val t)
/-! ### 2. __init__ -/
/-- the instance that is being made: in the first slot, its fields so far -/
structure SelfAt (K : PySem.W.Frag) (F : Fx) (D A : Avoid) (H : Hp) (σ : L2.St) (i : Nat) (p C : Addr) (ns : List Str) (ts : List T) : Prop where
  slot : σ[i]? = some (some (.ref p))
  obj : ∃ dx vs, p ∈ A ∧ p ∉ F.A0 ∧ p ∉ D ∧ dx ∈ A ∧ dx ∉ F.A0 ∧ dx ∉ D ∧ H p = some (.ins C dx (ns.zip vs)) ∧ H dx = some (.own p) ∧ ns.length = vs.length ∧ RepAll K A H vs ts
theorem SelfAt.beh {F : Fx} {D A : Avoid} {H H' : Hp} {σ : L2.St} {i : Nat} {p C : Addr} {ns : List Str} {ts : List T} (s : SelfAt K F D A H σ i p C ns ts) (d : ∀ a ∈ D, a ∈ A) (b : Beh D H H') : SelfAt K F D A H' σ i p C ns ts := by
  obtain ⟨dx, vs, h1, h2, h3, h4, h5, h6, h7, h8, h9, h10⟩ := s.obj
  exact ⟨s.slot, dx, vs, h1, h2, h3, h4, h5, h6, b.ext _ _ h3 h7, b.ext _ _ h6 h8, h9, h10.mono (ext_da d b.ext)⟩
abbrev WN := (List Str → List T → Prop) → List Sl → List Str → List T → Prop
def nOf (K : PySem.W.Frag) (i : Nat) (C : Addr) (w : WN) : TS := fun E σ H => ∃ F D A sl p ns ts k, Sta K F D A H σ sl ∧ SelfAt K F D A H σ i p C ns ts ∧ w k sl ns ts ∧ ∀ H' ns' ts', Sta K F D A H' σ sl → SelfAt K F D A H' σ i p C ns' ts' → k ns' ts' → E.nx σ H'
abbrev GN (X : Cx) (i : Nat) (C : Addr) (st : Stmt) (w : WN) : Prop := PS X st (nOf X.K i C w)
abbrev GNs (X : Cx) (i : Nat) (C : Addr) (sts : List Stmt) (w : WN) : Prop := PSs X sts (nOf X.K i C w)
def wnDrop (e : WE) : WN := fun k sl ns ts => e sl fun _ => k ns ts
/-- self.f = e, f new -/
def wnSet (f : Str) (e : WE) : WN := fun k sl ns ts => e sl fun x => ∃ t, x = .val t ∧ f ∉ ns ∧ ns.length < 500 ∧ k (ns ++ [f]) (ts ++ [t])
def wnNever : WN := fun _ _ _ _ => False
/-- self.f = e, f there or new -/
def putNs (f : Str) : List Str → List Str
  | [] => [f]
  | n :: r => if n = f then n :: r else n :: putNs f r
def putTs {α : Type} (f : Str) (t : α) : List Str → List α → List α
  | [], _ => [t]
  | n :: r, u :: us => if n = f then t :: us else u :: putTs f t r us
  | _ :: _, [] => []
theorem put_len {α : Type} {f : Str} {t : α} : ∀ {ns : List Str} {us : List α}, ns.length = us.length → (putNs f ns).length = (putTs f t ns us).length
  | [], [], _ => rfl
  | n :: ns, u :: us, l => by
    by_cases h : n = f
    · rw [putNs, if_pos h, putTs, if_pos h]
      exact l
    · rw [putNs, if_neg h, putTs, if_neg h, List.length_cons, List.length_cons, put_len (by simpa using l)]
  | [], _ :: _, l => by cases l
  | _ :: _, [], l => by cases l
def wnPut (f : Str) (e : WE) : WN := fun k sl ns ts => e sl fun x => ∃ t, x = .val t ∧ ns.length < 500 ∧ k (putNs f ns) (putTs f t ns ts)
def wnNext : WN := fun k _ ns ts => k ns ts
def wnSeq (a b : WN) : WN := fun k sl ns ts => a (fun ns' ts' => b k sl ns' ts') sl ns ts
/-- if t: .. else: .. -/
def wnIf (t : WT) (a b : WN) : WN := fun k sl ns ts => t sl fun c => if c = true then a k sl ns ts else b k sl ns ts
/-- what __init__ promises -/
abbrev WM := List Sl → (List Str → List T → Prop) → Prop
def spN (K : PySem.W.Frag) (C : Addr) (wf : WM) : Sp := fun vs H Q _ => ∃ D A p dx us H0 xs P, vs = .ref p :: us ∧ H = upd (upd H0 dx (.own p)) p (.ins C dx []) ∧ H0 p = none ∧ H0 dx = none ∧ dx ≠ p ∧ (∀ d ∈ D, MovAt H0 d) ∧ (∀ d ∈ D, d ∈ A) ∧ Liv D A H0 ∧
  Paired (ArgOk K D A H0) us xs ∧ wf xs P ∧ ∀ H' dx' ns ws ts, Beh D H0 H' → H' p = some (.ins C dx' (ns.zip ws)) → dx' ∉ A → H0 dx' = none → H' dx' = some (.own p) → ns.length = ws.length → RepAll K (p :: dx' :: A) H' ws ts → P ns ts → Q .non H'
def wInit (n m : Nat) (ws : WN) : WM := fun xs P => xs.length = n ∧ ws P (.any :: (xs ++ List.replicate m .any)) [] []
end
section
variable {P : Program} {w : World} {K : PySem.W.Frag} {mg : Str → Option Value} {base : Heap}
theorem Sta.cons {F : Fx} {D A : Avoid} {H : Hp} {σ : L2.St} {sl : List Sl} (S : Sta K F D A H σ sl) (o : Option V) : Sta K F D A H (o :: σ) (.any :: sl) :=
  { S with
    slots := .cons (.inl rfl) S.slots
    dist := fun i j l l' ts ts' e1 e2 n => by
      cases i with
      | zero => cases e1
      | succ i => cases j with
        | zero => cases e2
        | succ j => exact S.dist i j l l' ts ts' (by simpa using e1) (by simpa using e2) (fun z => n (by rw [z])) }
/-- places of a call's values: of the keywords (true), of the defaults -/
def pickL {α : Type} (is : List (Bool × Nat)) (ms zs : List α) : List α := is.filterMap fun q => if q.1 then zs[q.2]? else ms[q.2]?
theorem Paired.pick {α β : Type} {R : α → β → Prop} {ms zs : List α} {ds ys : List β} (h1 : Paired R ms ds) (h2 : Paired R zs ys) : ∀ is : List (Bool × Nat), Paired R (pickL is ms zs) (pickL is ds ys)
  | [] => .nil
  | q :: r => by
    have ih := Paired.pick h1 h2 r
    have one : ∀ {xs : List α} {us : List β} (i : Nat), Paired R xs us → Paired R (pickL r ms zs) (pickL r ds ys) → Paired R ((match xs[i]? with | some x => [x] | none => []) ++ pickL r ms zs) ((match us[i]? with | some x => [x] | none => []) ++ pickL r ds ys) := by
      intro xs us i h ih
      have hl := Paired.length_eq h
      cases e : us[i]? with
      | none =>
        have e2 : xs[i]? = none := by
          rw [List.getElem?_eq_none_iff] at e ⊢
          omega
        rw [e2]
        exact ih
      | some y =>
        obtain ⟨x, e2, hr⟩ := Paired.at h e
        rw [e2]
        exact .cons hr ih
    have two : ∀ {γ : Type} (us vs : List γ), pickL (q :: r) us vs = (match (if q.1 then vs[q.2]? else us[q.2]?) with | some x => [x] | none => []) ++ pickL r us vs := by
      intro γ us vs
      unfold pickL
      rw [List.filterMap_cons]
      cases (if q.1 then vs[q.2]? else us[q.2]?) <;> rfl
    rw [two, two]
    cases q.1 with
    | true => exact one q.2 h2 ih
    | false => exact one q.2 h1 ih
/-- a class: how it is made by n values and the keywords ks; dts: what its __init__'s defaults are -/
def MakeD (P : Program) (w : World) (K : PySem.W.Frag) (mg : Str → Option Value) (base : Heap) (k : Nat) (x : Str) (C : Addr) (n : Nat) (ks : List Str) (is : List (Bool × Nat)) (dts : List T) (wf : WM) : Prop :=
  ∃ (f : Addr) (fd : FuncData) (ps : List Str) (mvs : List V) (g : List Value → List Value → List Value), Mk K C f ∧ FnOk P w K mg base CX0 k f fd ps (spN K C wf) ∧ mg x = some (.ref C) ∧ KBn K fd ps (n + 1) ks g (fun vs zs => vs ++ pickL is mvs zs) ∧ ∀ A H, RepAll K A H mvs dts
end
section
variable {X : Cx} {K : PySem.W.Frag}
abbrev GK (X : Cx) (kws : List Keyword) (w : WA) : Prop := PK X kws (aOf X.K w)
/-- C(e, .., k = v, ..) -/
def wMake (C : Addr) (n m : Nat) (is : List (Bool × Nat)) (dts : List T) (wf : WM) (a b : WA) : WE := fun sl P => a sl fun xs => b sl fun ys => xs.length = n ∧ ys.length = m ∧ xs.all isArg = true ∧ ys.all isArg = true ∧ wf (xs ++ pickL is (dts.map Sl.val) ys) fun ns ts => P (.val (.ins C ns ts))
theorem RepAll.args {D A : Avoid} {H : Hp} : ∀ {vs : List V} {ts : List T}, RepAll K A H vs ts → Paired (ArgOk K D A H) vs (ts.map Sl.val)
  | _, _, .nil => .nil
  | _, _, .cons h r => .cons (show ArgOk K D A H _ (.val _) from h) (RepAll.args r)
end
end Tr


set_option Elab.async false
set_option linter.all false
set_option maxRecDepth 100000
set_option maxHeartbeats 0
namespace Tr
open PySem PySem.Spec PyProof.Rows L2
variable [Tabl]

/-! ### 3. == by an own __eq__ -/
section
variable {X : Cx} {K : PySem.W.Frag}
/-- what stands to the right of an own == -/
def TyB (K : PySem.W.Frag) (C : Addr) (y : V) (H : Hp) : Prop := (∃ b dx fs, y = .ref b ∧ H b = some (.ins C dx fs)) ∨ (∃ b xs, y = .ref b ∧ SqT K H b xs) ∨ (∃ b xs, y = .ref b ∧ SqL K H b xs) ∨ y = .non ∨ (∃ i, y = .int i) ∨ (∃ i, y = .bl i) ∨ ∃ z, y = .str z
def tyOk (C : Addr) : T → Prop
  | .ins C' _ _ => C' = C
  | .tup _ => True
  | .lst _ => True
  | .non => True
  | .int _ => True
  | .bl _ => True
  | .str _ => True
  | _ => False
def rOwn (K : PySem.W.Frag) (C : Addr) (wf : WF) (E : XK) : R2 := fun x y H Q => (∃ a dx fs, x = .ref a ∧ H a = some (.ins C dx fs)) ∧ TyB K C y H ∧ spT K wf [x, y] H (fun v H' => ∃ b, v = .bl b ∧ Q v H') E
/-- the own == of the class at C -/
def EqD (P : Program) (w : World) (K : PySem.W.Frag) (mg : Str → Option Value) (base : Heap) (k : Nat) (C : Addr) (wf : WF) : Prop :=
  ∃ (f : Addr) (fd : FuncData) (ps : List Str), FnOk P w K mg base CX0 k f fd ps (spT K wf) ∧ Meth K C "__eq__" f ∧ Binds K fd ps []
def wOwnEq (C : Addr) (wf : WF) (a b : WE) : WE := fun sl P => a sl fun x => b sl fun y => ∃ ns ts u, x = .val (.ins C ns ts) ∧ y = .val u ∧ tyOk C u ∧ wf [x, y] fun z => ∃ r, z = .val (.bl r) ∧ P z
/-! ### 4. str(x) by an own __str__ -/
def StrD (P : Program) (w : World) (K : PySem.W.Frag) (mg : Str → Option Value) (base : Heap) (k : Nat) (C : Addr) (wf : WF) : Prop :=
  ∃ (f : Addr) (fd : FuncData) (ps : List Str), FnOk P w K mg base CX0 k f fd ps (spT K wf) ∧ Meth K C "__str__" f ∧ Binds K fd ps []
def wStrI (C : Addr) (wf : WF) (a : WA) : WE := fun sl P => a sl fun xs => ∃ ns ts, xs = [.val (.ins C ns ts)] ∧ wf xs fun z => ∃ r, z = .val (.str r) ∧ P z
/-- str(int) -/
def sml (i : Int) : Bool := decide (i.natAbs.log2 < 1920)
def strT : List T → Option T
  | [.int i] => if sml i = true then some (.str (toString i)) else none
  | _ => none
/-! ### 5. f-strings -/
def wFmt (a : WE) : WE := fun sl P => a sl fun x => (∃ y : Str, x = .val (.str y) ∧ few y.length = true ∧ P (.val (.str y))) ∨ ∃ i : Int, x = .val (.int i) ∧ i.natAbs.log2 < 1920 ∧ P (.val (.str (toString i)))
/-- the parts, one behind the other -/
inductive GJ (X : Cx) : List Expr → List WE → Prop
  | nil : GJ X [] []
  | cons {e : Expr} {w : WE} {es : List Expr} {ws : List WE} : GE X e w → GJ X es ws → GJ X (e :: es) (w :: ws)
def wJs : List WE → Str → List Sl → (Str → Prop) → Prop
  | [], acc, _, P => P acc
  | w :: ws, acc, sl, P => w sl fun x => ∃ y : Str, x = .val (.str y) ∧ few (acc ++ y).length = true ∧ wJs ws (acc ++ y) sl P
def wJoin (ws : List WE) : WE := fun sl P => wJs ws Str.empty sl fun z => P (.val (.str z))
/-! ### 6. list(range(..)) -/
def wLstRg1 (a : WE) : WL := fun sl P => a sl fun x => ∃ n : Int, x = .val (.int n) ∧ 0 ≤ n ∧ n ≤ 100000 ∧ P (upTo 0 n.toNat)
/-! ### 7. dict(pairs), d[k] -/
def keyT : T → Option Key
  | .int i => some (.inl i)
  | .str x => some (.inr x)
  | _ => none
/-- pairs of a key and a value -/
def pairsT : List T → Option (List (Key × T))
  | [] => some []
  | .tup [k, v] :: r => (match keyT k, pairsT r with
    | some k, some l => some ((k, v) :: l)
    | _, _ => none)
  | _ => none
theorem keyT_ok {A : Avoid} {H : Hp} {v : V} {t : T} {k : Key} (r : Rep K A H v t) (e : keyT t = some k) : v = kV k := by
  cases t <;> cases e
  · cases r; rfl
  · cases r; rfl
theorem find_rep {A : Avoid} {H : Hp} {k : Key} {t : T} : ∀ {ks : List Key} {vs : List V} {ts : List T}, RepAll K A H vs ts → ((ks.zip ts).find? fun kv => decide (kv.1 = k)).map (·.2) = some t → ∃ v, valV (ks.zip vs) k = some v ∧ Rep K A H v t
  | [], vs, ts, _, e => by simp at e
  | n :: ns, _, _, .nil, e => by simp at e
  | n :: ns, _, _, .cons (v := v) (t := u) h r, e => by
    unfold valV
    rw [List.zip_cons_cons, List.find?_cons] at e ⊢
    by_cases q : n = k
    · rw [show decide (n = k) = true from decide_eq_true q] at e ⊢
      cases e
      exact ⟨v, rfl, h⟩
    · rw [show decide (n = k) = false from decide_eq_false q] at e ⊢
      exact find_rep r e
def wDGet (a b : WE) : WE := fun sl P => a sl fun x => b sl fun y => ∃ ks ts u k t, x.tree = some (.dct ks ts) ∧ y = .val u ∧ keyT u = some k ∧ ((ks.zip ts).find? fun kv => decide (kv.1 = k)).map (·.2) = some t ∧ P (.val t)
theorem ge_dget {j : Nat} {o i : Expr} {wa wb : WE} {pos : Pos} (hr : Room j X.A) (ho : GE X o wa) (hi : GE X i wb) (hs : NoSl i := by exact fun _ _ => rfl) : GE X (.Subscript o i pos) (wDGet wa wb) := ge_of (pe_dget (hu_of hr) ho hi hs) fun F D A H σ sl P Q S hw q =>
  ⟨F, D, A, sl, _, S, hw, fun u H1 x b1 ok1 hx => ⟨F, D, A, sl, _, S.beh b1, hx, fun v H2 y b2 ok2 hy => by
    obtain ⟨ks, ts, w, k, t, e0, rfl, ek, e, hp⟩ := hy
    have S2 := (S.beh b1).beh b2
    have r2 : Rep X.K A H2 v w := ok2
    rw [keyT_ok r2 ek]
    obtain ⟨a, vs, rfl, h, l, ra⟩ := ((ok1.mono S.dA b2).reads e0).dct
    obtain ⟨z, ez, rz⟩ := find_rep ra e
    exact ⟨a, z, rfl, .inl ⟨_, k, h, rfl, ez.symm⟩, q z H2 (.val t) (b1.trans b2) rz hp⟩⟩⟩
theorem pairs_rep {A : Avoid} {H : Hp} : ∀ {ts : List T} {vs : List V} {kvt : List (Key × T)}, RepAll K A H vs ts → pairsT ts = some kvt →
    ∃ (ps : List Addr) (kvs : List (Key × V)), vs = ps.map V.ref ∧ Paired (fun p kv => SqT K H p [kV kv.1, kv.2]) ps kvs ∧ kvs.map (·.1) = kvt.map (·.1) ∧ RepAll K A H (kvs.map (·.2)) (kvt.map (·.2))
  | [], _, _, .nil, e => by
    cases e
    exact ⟨[], [], rfl, .nil, rfl, .nil⟩
  | t :: ts, _, kvt, .cons (v := v) h r, e => by
    unfold pairsT at e
    split at e
    · rename_i heq
      cases heq
    · rename_i k w rest heq
      cases heq
      split at e
      · rename_i k' l e1 e2
        cases e
        obtain ⟨ps, kvs, rfl, hp, hk, hr⟩ := pairs_rep r e2
        obtain ⟨a, ws, rfl, hs, rs⟩ := (RepS.of h).tup
        cases rs with
        | cons r1 rs => cases rs with
          | cons r2 rs =>
            cases rs
            rw [keyT_ok r1 e1] at hs
            exact ⟨a :: ps, (k', _) :: kvs, rfl, .cons hs hp, by rw [List.map_cons, List.map_cons, hk], .cons r2 hr⟩
      · cases e
    · cases e
theorem valV_none {kvs : List (Key × V)} {k : Key} (h : k ∉ kvs.map (·.1)) : valV kvs k = none := by
  unfold valV
  rw [Option.map_eq_none_iff, List.find?_eq_none]
  intro kv hkv z
  exact h (List.mem_map.mpr ⟨kv, hkv, of_decide_eq_true z⟩)
theorem merge_new : ∀ {more acc : List (Key × V)}, ((acc ++ more).map (·.1)).Nodup → mergeK acc more = acc ++ more
  | [], acc, _ => by rw [List.append_nil]; rfl
  | kv :: more, acc, h => by
    show mergeK (putK acc kv.1 kv.2) more = _
    have hn : kv.1 ∉ acc.map (·.1) := by
      rw [List.map_append, List.nodup_append] at h
      intro z
      exact h.2.2 _ z _ (by rw [List.map_cons]; exact List.mem_cons_self) rfl
    rw [putK_new _ (valV_none hn)]
    have e : (acc ++ [(kv.1, kv.2)]) ++ more = acc ++ kv :: more := by rw [List.append_assoc]; rfl
    rw [merge_new (by rw [e]; exact h), e]
def wDictP (a : WA) : WE := fun sl P => a sl fun xs => ∃ ts kvt, xs = [.val (.lst ts)] ∧ pairsT ts = some kvt ∧ (kvt.map (·.1)).Nodup ∧ P (.val (.dct (kvt.map (·.1)) (kvt.map (·.2))))
theorem ge_dictP {x : Str} {e : Expr} {a : WA} {p pos : Pos} (hc : X.calm = true) (hg : Gl X x) (hm : X.mg x = none) (hv : bootBuiltins x = some (.type "dict")) (ha : GA X [e] a)
    (hn : x ≠ "__name__" := by decide) (hdb : (x == ("__debug__" : Str)) = false := by decide) (he : starEach [e] X.env = (false, eval e X.env) :: starEach [] X.env := by rfl) (hpl : (backTo pos (starEach [] X.env)).any (·.1) = false := by rfl) :
    GE X (.Call (.Name x p) [e] [] pos) (wDictP a) := ge_of (pe_callTy (call_dictP hc) hg hm hv ha hn hdb he hpl) fun F D A H σ sl P Q S hw q =>
  ⟨F, D, A, sl, _, S, hw, fun vs H1 xs b1 oks hx => by
    obtain ⟨ts, kvt, rfl, e1, hnd, hp⟩ := hx
    have S1 := S.beh b1
    cases oks with
    | cons ok r =>
      cases r
      have r0 : Rep X.K A H1 _ (.lst ts) := ok
      obtain ⟨b, us, rfl, hl, ra⟩ := (RepS.of r0).lst
      obtain ⟨ps, kvs, rfl, hpr, hk, hr⟩ := pairs_rep ra e1
      refine ⟨b, ps, kvs, rfl, .inl (.inl hl), hpr, fun p hpn => ?_⟩
      have em : mergeK [] kvs = kvs := by
        have := merge_new (more := kvs) (acc := []) (by rw [List.nil_append, hk]; exact hnd)
        rw [this, List.nil_append]
      have ez : kvs = (kvt.map (·.1)).zip (kvs.map (·.2)) := by
        rw [← hk]
        clear hk hpr hr em
        induction kvs with
        | nil => rfl
        | cons kv r ih => rw [List.map_cons, List.map_cons, List.zip_cons_cons, ← ih]
      rw [em]
      refine q (.ref p) _ (.val (.dct (kvt.map (·.1)) (kvt.map (·.2)))) (b1.trans (Beh.of_ext S1 (Ext.new hpn))) ?_ hp
      refine Rep.dct (vs := kvs.map (·.2)) (fresh_notin S1.alive hpn) (.inl (by rw [upd_same, ← ez])) ?_ (hr.mono (Ext.new hpn))
      rw [← hk, List.length_map, List.length_map]⟩
end
end Tr


set_option Elab.async false
set_option linter.all false
set_option maxRecDepth 100000
set_option maxHeartbeats 0
namespace Tr
open PySem PySem.Spec PyProof.Rows L2
variable [Tabl]
/-! ### 8. isinstance with an own class -/
def tyNames : List String := ["tuple", "list", "int", "bool", "str", "NoneType", "dict"]
structure InsD (K : PySem.W.Frag) (C : Addr) : Prop where
  cl : Cls K C
  ha : PySem.W.findIn K (.ref C) "__class__" = some (some (.builtin "object.__class__"))
  hn : PySem.W.specialIn K (.builtin "object.__class__") "__get__" = some (some (.builtin "getset_descriptor.__get__"))
  htk : PySem.W.takesIn K (.builtin "object.__class__") = some true
  hm : PySem.W.mroIn K C (.type "object") = some true
  me : PySem.W.kitOne K (.ref C) (.ref C) = some true
  ot : ∀ n ∈ tyNames, PySem.W.kitOne K (.type n) (.ref C) = some false
def insB (x : Str) (K : PySem.W.Frag) : Bool :=
  decide (PySem.W.findIn K (.ref (He.ga K x)) "__class__" = some (some (.builtin "object.__class__"))) && (decide (PySem.W.specialIn K (.builtin "object.__class__") "__get__" = some (some (.builtin "getset_descriptor.__get__"))) &&
  (decide (PySem.W.takesIn K (.builtin "object.__class__") = some true) && (decide (PySem.W.mroIn K (He.ga K x) (.type "object") = some true) && (decide (PySem.W.kitOne K (.ref (He.ga K x)) (.ref (He.ga K x)) = some true) &&
  tyNames.all fun n => decide (PySem.W.kitOne K (.type n) (.ref (He.ga K x)) = some false)))))
def isI (C : Addr) : T → Option Bool
  | .ins C' _ _ => if C' = C then some true else none
  | .ty _ => none
  | .fn _ => none
  | .exc _ _ _ _ => none
  | _ => some false
section
variable {X : Cx} {K : PySem.W.Frag}
def wIsI (C : Addr) (w : WE) : WE := fun sl P => w sl fun x => ∃ t b, x.tree = some t ∧ isI C t = some b ∧ P (.val (.bl b))
end
/-! ### a default that is a tuple of whole numbers -/
def kwAt (f : Str × Option Str) (x : Str) (K : PySem.W.Frag) : Addr := match K.lookup (He.fAd K f) with
  | some ⟨_, _, .func fd, _⟩ => (match fd.kwdefaults with
    | .ref D => (match PySem.W.nsIn K D x with
      | some (some (.ref a)) => a
      | _ => 0)
    | _ => 0)
  | _ => 0
def tupI (a : PySem.W.Frag → Addr) (ns : List Int) (K : PySem.W.Frag) : Bool := match K.lookup (a K) with
  | some ⟨.type c, _, .seq its _, _⟩ => decide (c = "tuple") && (decide (its.size ≤ sizeLine) && He.relAll (ns.map V.int) its.toList)
  | _ => false
end Tr
/-! ### 9. a head's facts, and one Bool more -/
namespace HeB
open PySem PySem.Spec PyProof.Rows L2 He
abbrev AlB : Type := AlD × Bool
def obsB (n : Nat) (fa : List Fa) (fn : List DefD) (ex : PySem.W.Frag → Bool) (g : Addr → Option Obj) : AlB := (obsD fa fn (frG g (asD g n)), ex (frG g (asD g n)))
def hookB (n : Nat) (fa : List Fa) (fn : List DefD) (ex : PySem.W.Frag → Bool) : PySem.W.Hook where
  α := AlB
  obs := fun s => obsB n fa fn ex s.heap.get?
  val := fun _ => (valD fn, true)
  says := fun _ h => ∃ K : PySem.W.Frag, K.In h ∧ SaysD fa fn K ∧ ex K = true
  of := fun _ _ e => ⟨_, frG_in, congrArg (fun z : AlB => z.1) e, congrArg (fun z : AlB => z.2) e⟩
  keeps := fun _ _ _ ⟨K, hK, c⟩ k => ⟨K, PySem.W.Frag.In.keeps hK k, c⟩
end HeB


set_option Elab.async false
set_option linter.all false
set_option maxRecDepth 100000
set_option maxHeartbeats 0
namespace Tr
open PySem PySem.Spec PyProof.Rows L2
variable [Tabl]
/-! ### 10. methods -/
section
variable {X : Cx} {K : PySem.W.Frag}
def MethD (P : Program) (w : World) (K : PySem.W.Frag) (mg : Str → Option Value) (base : Heap) (k : Nat) (C : Addr) (m : Str) (wf : WF) (dvs : List V) : Prop :=
  ∃ (f : Addr) (fd : FuncData) (ps : List Str) (ds : List Value), FnOk P w K mg base CX0 k f fd ps (spT K wf) ∧ Meth K C m f ∧ Binds K fd ps ds ∧ Vals dvs ds
def wMeth (C : Addr) (m : Str) (wf : WF) (dts : List T) (o : WE) (a : WA) : WE := fun sl P => o sl fun x => ∃ ns ts, x = .val (.ins C ns ts) ∧ m ∉ ns ∧ a sl fun xs => xs.all isArg = true ∧ wf (x :: (xs ++ dts.map Sl.val)) P
/-! ### 11. a class whose __init__ has defaults by place -/
def MakeP (P : Program) (w : World) (K : PySem.W.Frag) (mg : Str → Option Value) (base : Heap) (k : Nat) (x : Str) (C : Addr) (dts : List T) (wf : WM) : Prop :=
  ∃ (f : Addr) (fd : FuncData) (ps : List Str) (ds : List Value) (dvs : List V), Mk K C f ∧ FnOk P w K mg base CX0 k f fd ps (spN K C wf) ∧ mg x = some (.ref C) ∧ Binds K fd ps ds ∧ Vals dvs ds ∧ ∀ A H, RepAll K A H dvs dts
def wMakeP (C : Addr) (dts : List T) (wf : WM) (a : WA) : WE := fun sl P => a sl fun xs => xs.all isArg = true ∧ wf (xs ++ dts.map Sl.val) fun ns ts => P (.val (.ins C ns ts))
end
/-! ### 12. x = C(..); x.f = e; ..; return x -/
section
variable {K : PySem.W.Frag} {F : Fx} {D A B : Avoid} {H H1 : Hp} {σ : L2.St} {sl : List Sl}
end
section
variable {X : Cx} {K : PySem.W.Frag}
def bOf (K : PySem.W.Frag) (i : Nat) (C : Addr) (w : WN) : TS := fun E σ H => ∃ (F : Fx) (D A : Avoid) (sl : List Sl) (p : Addr) (ns : List Str) (ts : List T) (kr : Sl → Prop), Sta K F D A H σ sl ∧ SelfAt K F D A H σ i p C ns ts ∧ w (fun ns' ts' => kr (.val (.ins C ns' ts'))) sl ns ts ∧
  ∀ D' A' H' σ' sl' v x, Sta K F D' A' H' σ' sl' → SlOk K D' F.A0 A' H' v x → kr x → E.rt v H'
abbrev GB (X : Cx) (i : Nat) (C : Addr) (sts : List Stmt) (w : WN) : Prop := PSs X sts (bOf X.K i C w)
/-- x = C(e, ..), then the block -/
def wMkB (i : Nat) (dts : List T) (wf : WM) (a : WA) (C : Addr) (b : WN) : WS := fun k sl => a sl fun xs => xs.all isArg = true ∧ wf (xs ++ dts.map Sl.val) fun ns ts => i < sl.length ∧ b (fun ns' ts' => k.rt (.val (.ins C ns' ts'))) (sl.set i .any) ns ts
end
end Tr


set_option Elab.async false
set_option linter.all false
set_option maxRecDepth 100000
set_option maxHeartbeats 0
/-! x != y where the class has its own __eq__ and no __ne__ -/
namespace NeK
open PySem PySem.W PySem.Calls PyProof.Rows Builtin
section
variable {prog : Program} {w : World} {A : Around} {E : Value → Shared → Prop} {s : Shared} {K : PySem.W.Frag} {x C L f : Addr} {h₀ : Heap} {m : Str → Option Value} {ox : Obj} {od : Option Obj} {name : Str} {b tb : Value}
def NotBack (Q : Value → Shared → Prop) (v : Value) (s' : Shared) : Prop := ∃ r, v = .bool r ∧ Q (.bool (!r)) s'
end
end NeK

namespace Tr
open PySem PySem.Spec PyProof.Rows L2
variable [Tabl]
section
variable {X : Cx} {K : PySem.W.Frag}
structure NeC (K : PySem.W.Frag) (C : Addr) : Prop where
  ne : PySem.W.findIn K (.ref C) "__ne__" = some (some (.builtin "object.__ne__"))
  mr : PySem.W.mroIn K C (.type "object") = some true
def neB (x : Str) (K : PySem.W.Frag) : Bool := decide (PySem.W.findIn K (.ref (He.ga K x)) "__ne__" = some (some (.builtin "object.__ne__"))) && decide (PySem.W.mroIn K (He.ga K x) (.type "object") = some true)
def rOwnN (K : PySem.W.Frag) (C : Addr) (wf : WF) (E : XK) : R2 := fun x y H Q => (∃ a dx fs, x = .ref a ∧ H a = some (.ins C dx fs)) ∧ TyB K C y H ∧ spT K wf [x, y] H (fun v H' => ∃ b, v = .bl b ∧ Q (.bl (!b)) H') E
def wOwnNe (C : Addr) (wf : WF) (a b : WE) : WE := fun sl P => a sl fun x => b sl fun y => ∃ ns ts u, x = .val (.ins C ns ts) ∧ y = .val u ∧ tyOk C u ∧ wf [x, y] fun z => ∃ r, z = .val (.bl r) ∧ P (.val (.bl (!r)))
/-! ### len(x) by an own __len__ -/
def LenD (P : Program) (w : World) (K : PySem.W.Frag) (mg : Str → Option Value) (base : Heap) (k : Nat) (C : Addr) (wf : WF) : Prop :=
  ∃ (f : Addr) (fd : FuncData) (ps : List Str), FnOk P w K mg base CX0 k f fd ps (spT K wf) ∧ Meth K C "__len__" f ∧ Binds K fd ps []
def wLenI (C : Addr) (wf : WF) (a : WA) : WE := fun sl P => a sl fun xs => ∃ ns ts, xs = [.val (.ins C ns ts)] ∧ wf xs fun z => ∃ n : Nat, z = .val (.int n) ∧ n < 2 ^ 63 ∧ P z
end
end Tr


set_option Elab.async false
set_option linter.all false
set_option maxRecDepth 100000
set_option maxHeartbeats 0
/-! texts: ord, join, a sign in a text; x *= e; three at once; C() and what is set in it -/
namespace Tr
open PySem PySem.Spec PyProof.Rows L2
variable [Tabl]
section
variable {X : Cx} {K : PySem.W.Frag}
def ordT : List T → Option T
  | [.str x] => if x.length = 1 then some (.int (x.cps.getD 0 0 : Nat)) else none
  | _ => none
/-- a sign in a text -/
def inSg (neg : Bool) : T → T → Option T
  | .str x, .str z => (match x.cps.toList with
    | [c] => some (.bl (if neg = true then !decide (c ∈ z.cps.toList) else decide (c ∈ z.cps.toList)))
    | _ => none)
  | _, _ => none
theorem sg_of {x : Str} {c : Nat} (h : x.cps.toList = [c]) : x = ⟨#[c]⟩ := by
  cases x with
  | mk cps =>
    cases cps with
    | mk l =>
      cases h
      rfl
theorem sop_inS : SOp K rInS (inSg false) := fun A H u v x y z Q al ru rv e q => by
  cases x with
  | str i => cases y with
    | str j =>
      simp only [inSg] at e
      split at e
      · rename_i c hc
        cases e
        exact ⟨c, j, by rw [ru.str, sg_of hc], rv.str, q _ _ (Ext.refl H) (.bl _)⟩
      · cases e
    | _ => cases e
  | _ => cases e
/-- sep.join(list or tuple of texts) -/
theorem RepAll.strs {A : Avoid} {H : Hp} : ∀ {vs : List V} {ys : List Str}, RepAll K A H vs (ys.map T.str) → vs = ys.map V.str
  | _, [], .nil => rfl
  | _, y :: ys, .cons h r => by
    cases h
    rw [RepAll.strs r]
    rfl
def wJoinS (o e : WE) : WE := fun sl P => o sl fun x => ∃ a, x = .val (.str a) ∧ e sl fun y => ∃ t ts ys, y.tree = some t ∧ (t = .lst ts ∨ t = .tup ts) ∧ ts = ys.map T.str ∧ (ys.map (·.length)).sum + ys.length * a.length ≤ 16777216 ∧ P (.val (.str (Txt.join a ys)))
/-! ### x *= e -/
def ipM : TIp := fun x y H Q => ∃ i j, x = .int i ∧ y = .int j ∧ wide i j = true ∧ Q (.int (i * j)) H
def wAugM (i : Nat) (e : WE) : WS := fun k sl => ∃ a, nth sl i = .val (.int a) ∧ e sl fun x => ∃ b, x = .val (.int b) ∧ wide a b = true ∧ k.nx (sl.set i (.val (.int (a * b))))
/-- a, b, c = e, f, g -/
def wPar3 (i j l : Nat) (a : WA) : WS := fun k sl => a sl fun xs => ∃ x y z, xs = [x, y, z] ∧ storable x = true ∧ storable y = true ∧ storable z = true ∧ k.nx (((sl.set i x).set j y).set l z)
theorem gs_par3 (i j l : Nat) {x y z : Str} {a b c : Expr} {w : WA} {px py pz pt pos : Pos} {kt k2 pt2} (hc : X.calm = true) (hN : X.N.Nodup) (hi : X.N[i]? = some x) (hj : X.N[j]? = some y) (hl : X.N[l]? = some z) (hij : i ≠ j) (hil : i ≠ l) (hjl : j ≠ l)
    (hx : X.env.scope.names.lookup x = some .local) (hy : X.env.scope.names.lookup y = some .local) (hz : X.env.scope.names.lookup z = some .local) (ha : GA X [a, b, c] w)
    (hw : swappedStores [.Tuple [.Name x px, .Name y py, .Name z pz] kt pt] (.Tuple [a, b, c] k2 pt2) X.env = pure (some [x, y, z]))
    (hs : swapsWithSole [.Tuple [.Name x px, .Name y py, .Name z pz] kt pt] (.Tuple [a, b, c] k2 pt2) pos.line X.env = pure false := by rfl) :
    GS X (.Assign [.Tuple [.Name x px, .Name y py, .Name z pz] kt pt] (.Tuple [a, b, c] k2 pt2) pos) (wPar3 i j l w) := gs_of (ps_par3 hc hN hi hj hl hij hil hjl hx hy hz ha hw hs) fun E σ H h => by
  obtain ⟨F, D, A, sl, k, S, hw, q1, _⟩ := h
  refine ⟨F, D, A, sl, _, S, hw, fun vs H1 xs b1 oks hx => ?_⟩
  obtain ⟨x, y, z, rfl, h1, h2, h3, hp⟩ := hx
  cases oks with
  | cons ok r => cases r with
    | cons ok2 r => cases r with
      | cons ok3 r =>
        cases r
        exact ⟨_, _, _, rfl, q1 _ _ _ _ _ ((((S.beh b1).set ok (storable_own h1)).set ok2 (storable_own h2)).set ok3 (storable_own h3)) hp⟩
end
section
variable {P : Program} {w : World} {K : PySem.W.Frag} {mg : Str → Option Value} {base : Heap} {x qual : Str} {params : Arguments} {body : List Stmt} {scope : Scope} {dvs : List V} {kws : List (Str × V)} {f C : Addr} {fd : FuncData} {ps : List Str} {k : Nat} {wf : WF} {wm : WM} {m y : Str} {dts : List T}
theorem MethD.of (F : FunD K x qual params body scope [] kws f fd) (G : FnOk P w K mg base CX0 k f fd ps (spT K wf)) (M : Meth K C m f)
    (h : ∀ (kV doc pm : Value) (an : Option Addr) (cdv ct : Value) (us : List Value), us.length = ps.length → bindArgs (PySem.W.fnOf x qual params body scope .none kV doc pm an cdv ct) ⟨us, []⟩ = pure (ps.zip us)) : MethD P w K mg base k C m wf [] :=
  ⟨f, fd, ps, [], G, M, F.bindsN h, .nil⟩
theorem MethD.dfl (F : FunD K x qual params body scope dvs kws f fd) (G : FnOk P w K mg base CX0 k f fd ps (spT K wf)) (M : Meth K C m f) (n j : Nat) (hd : dvs ≠ []) (hn : n + (dvs.length - j) = ps.length)
    (h : ∀ (T : Addr) (kV doc pm : Value) (an : Option Addr) (cdv ct : Value) (us its : List Value), us.length = n → its.length = dvs.length →
      ∃ k, bindArgs (PySem.W.fnOf x qual params body scope (.ref T) kV doc pm an cdv ct) ⟨us, []⟩ = seqItems? (.ref T) >>= k ∧ k (some its.toArray) = pure (ps.zip (us ++ its.drop j))) : MethD P w K mg base k C m wf (dvs.drop j) := by
  obtain ⟨ds, h1, h2⟩ := F.binds1 n j hd hn h
  exact ⟨f, fd, ps, ds, G, M, h2, h1⟩
theorem MakeP.of (F : FunD K x qual params body scope [] kws f fd) (G : FnOk P w K mg base CX0 k f fd ps (spN K C wm)) (M : Mk K C f) (hm : mg y = some (.ref C))
    (h : ∀ (kV doc pm : Value) (an : Option Addr) (cdv ct : Value) (us : List Value), us.length = ps.length → bindArgs (PySem.W.fnOf x qual params body scope .none kV doc pm an cdv ct) ⟨us, []⟩ = pure (ps.zip us)) : MakeP P w K mg base k y C [] wm :=
  ⟨f, fd, ps, [], [], M, G, hm, F.bindsN h, .nil, fun _ _ => .nil⟩
theorem MakeP.dfl (F : FunD K x qual params body scope dvs kws f fd) (G : FnOk P w K mg base CX0 k f fd ps (spN K C wm)) (M : Mk K C f) (hm : mg y = some (.ref C)) (n j : Nat) (hd : dvs ≠ []) (hn : n + (dvs.length - j) = ps.length)
    (h : ∀ (T : Addr) (kV doc pm : Value) (an : Option Addr) (cdv ct : Value) (us its : List Value), us.length = n → its.length = dvs.length →
      ∃ k, bindArgs (PySem.W.fnOf x qual params body scope (.ref T) kV doc pm an cdv ct) ⟨us, []⟩ = seqItems? (.ref T) >>= k ∧ k (some its.toArray) = pure (ps.zip (us ++ its.drop j))) (hr : ∀ A H, RepAll K A H (dvs.drop j) dts) : MakeP P w K mg base k y C dts wm := by
  obtain ⟨ds, h1, h2⟩ := F.binds1 n j hd hn h
  exact ⟨f, fd, ps, ds, _, M, G, hm, h2, h1, hr⟩
end
/-- where the i-th default stands -/
def pdAt (f : Str × Option Str) (i : Nat) (K : PySem.W.Frag) : Addr := match K.lookup (He.fAd K f) with
  | some ⟨_, _, .func fd, _⟩ => (match fd.defaults with
    | .ref D => (match K.lookup D with
      | some ⟨_, _, .seq its _, _⟩ => (match its[i]? with
        | some (.ref a) => a
        | _ => 0)
      | _ => 0)
    | _ => 0)
  | _ => 0
end Tr


set_option Elab.async false
set_option linter.all false
set_option maxRecDepth 100000
set_option maxHeartbeats 0
/-! the module's own tuples and dicts of flat values -/
namespace Tr
open PySem PySem.Spec PyProof.Rows L2
variable [Tabl]
section
variable {X : Cx} {K : PySem.W.Frag}
def flT : T → Option V
  | .non => some .non
  | .bl b => some (.bl b)
  | .int i => some (.int i)
  | .str x => some (.str x)
  | _ => none
def flAll : List T → Option (List V)
  | [] => some []
  | t :: r => (flT t).bind fun v => (flAll r).map fun vs => v :: vs
def GloT (K : PySem.W.Frag) (mg : Str → Option Value) (x : Str) (t : T) : Prop := ∃ a, mg x = some (.ref a) ∧ ∀ A H, Rep K A H (.ref a) t
def tupV (x : Str) (ts : List T) (K : PySem.W.Frag) : Bool := match flAll ts, K.lookup (He.ga K x) with
  | some vs, some ⟨.type c, _, .seq its _, _⟩ => decide (c = "tuple") && (decide (its.size ≤ sizeLine) && He.relAll vs its.toList)
  | _, _ => false
/-- a dict of the module: text keys, flat values -/
def KD (K : PySem.W.Frag) (w : World) (mg : Str → Option Value) (x : Str) (kvs : List (Str × T)) : Prop := ∃ d, mg x = some (.ref d) ∧ ∀ z t, kvs.lookup z = some t → ∃ v, KDct K w d z v ∧ ∀ A H, Rep K A H v t
def valsT (x : Str) (kvs : List (Str × T)) (K : PySem.W.Frag) : Bool := kvs.all fun q => match flT q.2, PySem.W.nsIn K (He.ga K x) q.1 with
  | some v, some (some u) => He.relB v u
  | _, _ => false
def wKD (kvs : List (Str × T)) (b : WE) : WE := fun sl P => b sl fun y => ∃ z t, y = .val (.str z) ∧ kvs.lookup z = some t ∧ P (.val t)
end
end Tr
/-! a head's facts, one Bool more, and tables with text keys -/
namespace HeC
open PySem PySem.Spec PyProof.Rows L2 He
abbrev AlC : Type := HeB.AlB × List (Option (List (Option (Str × Int))))
def obsC (n : Nat) (fa : List Fa) (fn : List DefD) (ex : PySem.W.Frag → Bool) (ts : List Tab) (g : Addr → Option Obj) : AlC := (HeB.obsB n fa fn ex g, ts.map fun t => dicW (frG g (asD g n)) (t.1 (frG g (asD g n))))
def hookC (n : Nat) (fa : List Fa) (fn : List DefD) (ex : PySem.W.Frag → Bool) (ts : List Tab) : PySem.W.Hook where
  α := AlC
  obs := fun s => obsC n fa fn ex ts s.heap.get?
  val := fun w => ((valD fn, true), ts.map fun t => some (keysIn w.params t.2))
  says := fun w h => ∃ K : PySem.W.Frag, K.In h ∧ SaysD fa fn K ∧ ex K = true ∧ ∀ t ∈ ts, ∃ es n, KDict K w (t.1 K) es n
  of := fun _ _ e => ⟨_, frG_in, congrArg (fun z : AlC => z.1.1) e, congrArg (fun z : AlC => z.1.2) e, fun t ht => by
    have e2 := congrArg (fun z : AlC => z.2) e
    obtain ⟨i, hi⟩ := List.mem_iff_getElem?.mp ht
    have e3 := congrArg (fun l => l[i]?) e2
    simp only [obsC, List.getElem?_map, hi, Option.map_some] at e3
    exact dicW_ok (Option.some.inj e3)⟩
  keeps := fun _ _ _ ⟨K, hK, c⟩ k => ⟨K, PySem.W.Frag.In.keeps hK k, c⟩
end HeC


set_option Elab.async false
set_option linter.all false
set_option maxRecDepth 100000
set_option maxHeartbeats 0
/-! sorted(set(xs)), xs.extend(ys), a text's beginning, str(None), list(range(a, b)) -/
namespace Tr
open PySem PySem.Spec PyProof.Rows L2
variable [Tabl]
section
variable {X : Cx} {K : PySem.W.Frag}
def wSrt (a : WE) : WE := fun sl P => a sl fun x => ∃ ns : List Int, x.tree = some (.lst (ns.map T.int)) ∧ ns.length < 64 ∧ ∀ ms : List Int, ms.Pairwise (· < ·) → (∀ k : Int, k ∈ ms ↔ k ∈ ns) → P (.val (.lst (ms.map T.int)))
/-! x.extend(e), x a list of one's own -/
def wExt (i : Nat) (e : WE) : WS := fun k sl => ∃ l ts, nth sl i = .own l ts ∧ e sl fun x => ∃ us, x = .val (.lst us) ∧ ts.length + us.length ≤ 1000000 ∧ k.nx (sl.set i (.own l (ts ++ us)))
/-! a text's beginning -/
def wSw (a b : WE) : WE := fun sl P => a sl fun x => ∃ z, x = .val (.str z) ∧ b sl fun y => ∃ u, y = .val (.str u) ∧ P (.val (.bl (Txt.startswith z u)))
/-! str(x), x a whole number or None -/
def strNT : List T → Option T
  | [.int i] => if sml i = true then some (.str (toString i)) else none
  | [.non] => some (.str "None")
  | _ => none
def tFmtN (te : TE) : TE := fun σ H Q => te σ H fun x H1 => (∃ y : Str, x = .str y ∧ y.length ≤ sizeLine ∧ Q (.str y) H1) ∨ (∃ i : Int, x = .int i ∧ i.natAbs.log2 < 1920 ∧ Q (.str (toString i)) H1) ∨ x = .non ∧ Q (.str "None") H1
def wFmtN (a : WE) : WE := fun sl P => a sl fun x => (∃ y : Str, x = .val (.str y) ∧ few y.length = true ∧ P (.val (.str y))) ∨ (∃ i : Int, x = .val (.int i) ∧ i.natAbs.log2 < 1920 ∧ P (.val (.str (toString i)))) ∨ x = .val .non ∧ P (.val (.str "None"))
/-! list(range(a, b)) -/
def wLstRg2 (a b : WE) : WL := fun sl P => a sl fun x => b sl fun y => ∃ m n : Int, x = .val (.int m) ∧ y = .val (.int n) ∧ 0 ≤ m ∧ m ≤ 100000 ∧ 0 ≤ n ∧ n ≤ 100000 ∧ P (upTo m (n - m).toNat)
end
end Tr


set_option Elab.async false
set_option linter.all false
set_option maxRecDepth 100000
set_option maxHeartbeats 0
/-! repr of data: it asks that no other repr runs around; so defs that use it keep their promise where no guard stands around -/
namespace L2
open PySem PySem.Spec PyProof.Rows
def NoG (A : Around) : Prop := A.guards = some []
theorem NoG.deeper {A : Around} (g : NoG A) (env : Env) : NoG (A.deeper env) := g
/-- what a def promises where no guard stands around -/
structure FnG (P : Program) (w : World) (K : PySem.W.Frag) (mg : Str → Option Value) (base : Heap) (CX : CXT) (k : Nat) (f : Addr) (fd : FuncData) (ps : List Str) (sp : Sp) : Prop where
  len : ∀ vs H Q E, sp vs H Q E → vs.length = ps.length
  go : ∀ (A : Around) (outer : List Env) (s : Shared) (H : Hp) (args : Args) (us : List Value) (vs : List V) (Q : VK) (E : XK), NoG A → Room k A → Env0 P w K mg base A outer s H → BindsTo s fd args (ps.zip us) →
    Vals vs us → sp vs H Q E → codeAny (model P w) A (.call (.ref f) args) (CR CX outer P w H s Q E) s
section
variable {P : Program} {w : World} {K : PySem.W.Frag} {mg : Str → Option Value} {base : Heap} {CX : CXT}
theorem FnOk.toG {k : Nat} {f : Addr} {fd : FuncData} {ps : List Str} {sp : Sp} (F : FnOk P w K mg base CX k f fd ps sp) : FnG P w K mg base CX k f fd ps sp :=
  ⟨F.len, fun A outer s H args us vs Q E _ hr => F.run A outer s H args us vs Q E hr⟩
theorem FnG.mono {j k : Nat} {f : Addr} {fd : FuncData} {ps : List Str} {sp : Sp} (F : FnG P w K mg base CX j f fd ps sp) (h : j ≤ k) : FnG P w K mg base CX k f fd ps sp :=
  ⟨F.len, fun A outer s H args us vs Q E g hr => F.go A outer s H args us vs Q E g (hr.mono h)⟩
theorem FnG.imp {k : Nat} {f : Addr} {fd : FuncData} {ps : List Str} {sp sp' : Sp} (F : FnG P w K mg base CX k f fd ps sp) (h : ∀ vs H Q E, sp' vs H Q E → sp vs H Q E) : FnG P w K mg base CX k f fd ps sp' :=
  ⟨fun vs H Q E q => F.len vs H Q E (h _ _ _ _ q), fun A outer s H args us vs Q E g hr he hb hv hs => F.go A outer s H args us vs Q E g hr he hb hv (h _ _ _ _ hs)⟩
end
section
variable {X : Cx} {CX : CXT} {k : Nat} {f : Addr} {fd : FuncData} {ps : List Str} {sp : Sp} {dvs : List V} {ds : List Value} {E : XK} {x : Str} {p pos : Pos} {e : Expr} {es : List Expr} {t : TA}
theorem FnG.runs {pins : List (Addr × Obj)} {σ : St} {H : Hp} {s : Shared} {Q : VK} {us : List Value} {vs : List V} (F : FnG X.prog X.w X.K X.mg X.base CX k f fd ps sp) (g : NoG X.A) (room : Room k X.A)
    (bnd : Binds X.K fd ps ds) (rd : Vals dvs ds) (pass : Passes CX X E) (I : Inv X pins σ H s) (r : Vals vs us) (want : sp (vs ++ dvs) H Q E) : wpAny (model X.prog X.w) X.A (call (.ref f) us) (EP X pins σ Q) X.xe s := by
  have all := r.append rd
  have many := F.len _ _ _ _ want
  rw [all.length] at many
  apply wpAny_call
  apply codeAny_mono (F.go X.A X.stack s H ⟨us, []⟩ _ _ Q E g room I.env0 (bnd s us I.kIn many) all want)
  intro res s2 hres
  match res, hres with
  | .error er, hres => exact pass pins σ H s er s2 I hres
  | .ok (.ret u), hres => exact I.after hres
  | .ok .next, hres => exact False.elim hres
  | .ok .brk, hres => exact False.elim hres
  | .ok .cont, hres => exact False.elim hres
end
end L2
namespace L2
open PySem PySem.Spec PyProof.Rows
/-! ### the end of such a law -/
section
variable {P : Program} {w : World} {K : PySem.W.Frag} {mg mb : Str → Option Value} {CX : CXT} {k : Nat} {fa a : Addr} {fd : FuncData} {x : Str} {sp : Sp} {S : Shared} {vs : List Value} {ns : List Int}
/-- the wanted end -/
def Yes (S : Shared) : Result → Shared → Prop := fun r s' => r = .ok (.ret (.bool true)) ∧ OldK S.heap s'.heap ∧ s'.os = S.os ∧ AllBare s'.gens
/-- nothing but the script is tracked in H -/
structure OnlyAt (P : Program) (w : World) (K : PySem.W.Frag) (S : Shared) (a : Addr) (H : Hp) : Prop where
  only : Only H
  ok : HOk P w H S.heap
  at_ : ∀ b, H b ≠ none → b = a
  out : H a ≠ none → K.lookup a = none
theorem OnlyAt.dict {H : Hp} (o : OnlyAt P w K S a H) (ha : S.heap.get? a = some { cls := .type "list", data := .seq vs.toArray }) {b : Addr} {ob : Obj} {es : Array DictEntry} {ep : Nat} (e : S.heap.get? b = some ob) (d : ob.data = .dict es ep) : H b = none := by
  refine Classical.byContradiction fun z => ?_
  obtain rfl := o.at_ b z
  rw [ha] at e
  obtain rfl := Option.some.inj e
  exact nomatch d
end
end L2
namespace L2
open PySem PySem.Spec PyProof.Rows
/-! ### repr -/
def rReprD (K : PySem.W.Frag) : List V → Hp → VK → Prop := fun xs H Q => ∃ x d, xs = [x] ∧ Dp K H x d ∧ d.showable = true ∧ d.depth ≤ 60 ∧ d.shown.length ≤ sizeLine ∧ Q (.str d.shown) H
mutual
theorem Dp.noDict {K : PySem.W.Frag} {H : Hp} : ∀ (d : PyData) (v : V), Dp K H v d → d.hasDict = false
  | .none, _, _ => rfl
  | .bool _, _, _ => rfl
  | .int _, _, _ => rfl
  | .str _, _, _ => rfl
  | .list ds, _, h => by
    cases h with
    | lst _ ha => exact Dp.noDicts ds _ ha
  | .tuple ds, _, h => by
    cases h with
    | tup _ ha => exact Dp.noDicts ds _ ha
  | .dict _, _, h => by cases h
theorem Dp.noDicts {K : PySem.W.Frag} {H : Hp} : ∀ (ds : List PyData) (vs : List V), DpAll K H vs ds → PyData.hasDictAll ds = false
  | [], _, _ => rfl
  | d :: ds, _, h => by
    cases h with
    | cons h1 h2 =>
      have e1 := Dp.noDict d _ h1
      have e2 := Dp.noDicts ds _ h2
      show (d.hasDict || PyData.hasDictAll ds) = false
      rw [e1, e2]
      rfl
end
section
variable {X : Cx}
end
end L2
namespace Tr
open PySem PySem.Spec PyProof.Rows L2
variable [Tabl]
section
variable {X : Cx} {K : PySem.W.Frag}
def reprD : List T → Option T
  | [t] => (match dat t with
    | some d => if (d.showable && decide (d.depth ≤ 60) && decide (d.shown.length ≤ sizeLine)) = true then some (.str d.shown) else none
    | none => none)
  | _ => none
/-- a def that uses repr of data stands under x -/
def CallG (P : Program) (w : World) (K : PySem.W.Frag) (mg : Str → Option Value) (base : Heap) (k : Nat) (x : Str) (wf : WF) (dvs : List V) : Prop :=
  ∃ (f : Addr) (fd : FuncData) (ps : List Str) (ds : List Value), FnG P w K mg base CX0 k f fd ps (spT K wf) ∧ mg x = some (.ref f) ∧ PySem.W.keepIn K (.ref f) = true ∧ Binds K fd ps ds ∧ Vals dvs ds
end
section
variable {P : Program} {w : World} {K : PySem.W.Frag} {mg : Str → Option Value} {base : Heap}
variable {x qual : Str} {params : Arguments} {body : List Stmt} {scope : Scope} {dvs : List V} {kws : List (Str × V)} {f : Addr} {fd : FuncData} {ps : List Str} {k : Nat} {wf : WF}
theorem CallG.of (F : FunD K x qual params body scope [] kws f fd) (G : FnG P w K mg base CX0 k f fd ps (spT K wf)) (hm : mg x = some (.ref f))
    (h : ∀ (kV doc pm : Value) (an : Option Addr) (cdv ct : Value) (us : List Value), us.length = ps.length → bindArgs (PySem.W.fnOf x qual params body scope .none kV doc pm an cdv ct) ⟨us, []⟩ = pure (ps.zip us)) : CallG P w K mg base k x wf [] :=
  ⟨f, fd, ps, [], G, hm, F.kp, F.bindsN h, .nil⟩
end
end Tr


set_option Elab.async false
set_option linter.all false
set_option maxRecDepth 100000
set_option maxHeartbeats 0
/-! a, b = a list of that length -/
namespace Tr
open PySem PySem.Spec PyProof.Rows L2
variable [Tabl]
section
variable {X : Cx} {pos : Pos}
def gTupL (K : PySem.W.Frag) (n : Nat) (t : TGs) : TG := fun v σ H Q => ∃ a xs, v = .ref a ∧ SqL K H a xs ∧ xs.length = n ∧ t xs σ H Q
def wAsgL (e : WE) (is : List Nat) : WS := fun k sl => e sl fun x => ∃ ts, x = .val (.lst ts) ∧ ts.length = is.length ∧ k.nx (setAll sl is ts)
end
end Tr


set_option Elab.async false
set_option linter.all false
set_option maxRecDepth 100000
set_option maxHeartbeats 0
namespace Tr
open PySem PySem.Spec PyProof.Rows L2
variable [Tabl]
/-! ### 16. readings reckoned -/
section
variable {sl r : List Sl} {x y z : Sl} {i j : Nat} {P : Sl → Prop} {a b c : WE} {t u : T} {k : Ks}
@[simp] theorem nth_0 : nth (x :: r) 0 = x := rfl
@[simp] theorem nth_1 : nth (x :: y :: r) 1 = y := rfl
@[simp] theorem nth_s : nth (x :: r) (i + 1) = nth r i := rfl
@[simp] theorem tree_val : (Sl.val t).tree = some t := rfl
@[simp] theorem tree_own {l : Addr} {ts : List T} : (Sl.own l ts).tree = some (.lst ts) := rfl
@[simp] theorem wVar_e : wVar i sl P = (nth sl i ≠ .any ∧ P (nth sl i)) := rfl
@[simp] theorem wC_e : wC t sl P = P (.val t) := rfl
@[simp] theorem wOp_e {f : T → T → Option T} : wOp f a b sl P = a sl fun x => b sl fun y => ∃ s t z, x.tree = some s ∧ y.tree = some t ∧ f s t = some z ∧ P (.val z) := rfl
@[simp] theorem wB_e {Q : Bool → Prop} : wB a sl Q = a sl fun x => ∃ b, x = .val (.bl b) ∧ Q b := rfl
@[simp] theorem wChain_e {f g : T → T → Option T} : wChain f g a b c sl P = a sl fun x => b sl fun y => ∃ s t k, x.tree = some s ∧ y.tree = some t ∧ f s t = some (.bl k) ∧ (if k = true then c sl fun z => ∃ u r, z.tree = some u ∧ g t u = some r ∧ P (.val r) else P (.val (.bl false))) := rfl
@[simp] theorem wIsN_e {neg : Bool} : wIsN neg a sl P = a sl fun x => ∃ b, isN x = some b ∧ P (.val (.bl (if neg then !b else b))) := rfl
@[simp] theorem wAnd_e {t u : WT} {Q : Bool → Prop} : wAnd t u sl Q = t sl fun b => if b = true then u sl Q else Q false := rfl
@[simp] theorem wOr_e {t u : WT} {Q : Bool → Prop} : wOr t u sl Q = t sl fun b => if b = true then Q true else u sl Q := rfl
@[simp] theorem wNot_e {t : WT} {Q : Bool → Prop} : wNot t sl Q = t sl fun b => Q (!b) := rfl
@[simp] theorem wAndV_e : wAndV a b sl P = a sl fun x => ∃ c, x = .val (.bl c) ∧ if c = true then b sl P else P (.val (.bl false)) := rfl
@[simp] theorem wOrV_e : wOrV a b sl P = a sl fun x => ∃ c, x = .val (.bl c) ∧ if c = true then P (.val (.bl true)) else b sl P := rfl
@[simp] theorem wNotV_e : wNotV a sl P = a sl fun x => ∃ c, x = .val (.bl c) ∧ P (.val (.bl (!c))) := rfl
@[simp] theorem wIfE_e {c : WT} : wIfE c a b sl P = c sl fun k => if k = true then a sl P else b sl P := rfl
@[simp] theorem wTru_e {Q : Bool → Prop} : wTru a sl Q = a sl fun x => ∃ t b, x.tree = some t ∧ truT t = some b ∧ Q b := rfl
@[simp] theorem waNil_e {Q : List Sl → Prop} : waNil sl Q = Q [] := rfl
@[simp] theorem waCons_e {r : WA} {Q : List Sl → Prop} : waCons a r sl Q = a sl fun x => r sl fun xs => Q (x :: xs) := rfl
@[simp] theorem wTup_e {r : WA} : wTup r sl P = r sl fun xs => ∃ ts, trees xs = some ts ∧ ts.length ≤ 1000000 ∧ P (.val (.tup ts)) := rfl
@[simp] theorem trees_nil : trees [] = some [] := rfl
@[simp] theorem trees_cons {xs : List Sl} : trees (.val t :: xs) = (trees xs).map fun ts => t :: ts := by
  show (match trees xs with
    | some ts => some (t :: ts)
    | none => none) = _
  cases trees xs <;> rfl
@[simp] theorem treesR_nil : treesR [] = some [] := rfl
@[simp] theorem treesR_cons {xs : List Sl} : treesR (.val t :: xs) = (treesR xs).map fun ts => t :: ts := by
  show (match some t, treesR xs with
    | some t, some ts => some (t :: ts)
    | _, _ => none) = _
  cases treesR xs <;> rfl
@[simp] theorem treesR_own {l : Addr} {us : List T} {xs : List Sl} : treesR (.own l us :: xs) = (treesR xs).map fun ts => .lst us :: ts := by
  show (match some (T.lst us), treesR xs with
    | some t, some ts => some (t :: ts)
    | _, _ => none) = _
  cases treesR xs <;> rfl
@[simp] theorem wL_e {w : WL} : wL w sl P = w sl fun ts => P (.val (.lst ts)) := rfl
@[simp] theorem wLst_e {r : WA} {Q : List T → Prop} : wLst r sl Q = r sl fun xs => ∃ ts, trees xs = some ts ∧ ts.length ≤ 1000000 ∧ Q ts := rfl
@[simp] theorem wLstOf_e {r : WA} {Q : List T → Prop} : wLstOf r sl Q = r sl fun xs => ∃ x t ts, xs = [x] ∧ x.tree = some t ∧ t.seq = some ts ∧ Q ts := rfl
@[simp] theorem wCatL_e {Q : List T → Prop} : wCatL a b sl Q = a sl fun x => b sl fun y => ∃ xs ys, x.tree = some (.lst xs) ∧ y.tree = some (.lst ys) ∧ few (xs.length + ys.length) = true ∧ Q (xs ++ ys) := rfl
@[simp] theorem wDct0_e : wDct0 sl P = P (.val (.dct [] [])) := rfl
@[simp] theorem woNone_e {Q : Option Int → Prop} : woNone sl Q = Q none := rfl
@[simp] theorem woSome_e {Q : Option Int → Prop} : woSome a sl Q = a sl fun x => ∃ i, x = .val (.int i) ∧ Q (some i) := rfl
@[simp] theorem wSl_e {l h : WO} : wSl a l h sl P = a sl fun x => l sl fun lo => h sl fun hi => ∃ s z, x.tree = some s ∧ slT s lo hi = some z ∧ P (.val z) := rfl
@[simp] theorem wCB_e {f : List T → Option T} {r : WA} : wCB f r sl P = r sl fun xs => ∃ ts z, treesR xs = some ts ∧ f ts = some z ∧ P (.val z) := rfl
@[simp] theorem wUn_e {f : T → Option T} : wUn f a sl P = a sl fun x => ∃ s z, x.tree = some s ∧ f s = some z ∧ P (.val z) := rfl
@[simp] theorem wMaxL_e {w : WA} : wMaxL w sl P = w sl fun xs => ∃ (x : Sl) (ns : List Int), xs = [x] ∧ x.tree = some (.lst (ns.map T.int)) ∧ 0 < ns.length ∧ ∀ m, m ∈ ns → (∀ y, y ∈ ns → y ≤ m) → P (.val (.int m)) := rfl
@[simp] theorem wCall_e {wf : WF} {dts : List T} {w : WA} : wCall wf dts w sl P = w sl fun xs => xs.all isArg = true ∧ wf (xs ++ dts.map Sl.val) P := rfl
@[simp] theorem isArg_val : isArg (.val t) = true := rfl
@[simp] theorem isArg_dice : isArg .dice = true := rfl
@[simp] theorem wLc_e {wi : WI} {g : Tg} {wt : WT} {we : WE} {vs : List Nat} {Q : List T → Prop} : wLc wi g wt we vs sl Q = wi sl fun ts => ts.length ≤ 100000 ∧ wColl g wt we (wipeS sl vs) Q ts [] := rfl
@[simp] theorem wipeS_nil : wipeS sl [] = sl := rfl
@[simp] theorem wipeS_cons {v : Nat} {vs : List Nat} : wipeS sl (v :: vs) = (wipeS sl vs).set v .any := rfl
@[simp] theorem wYes_e {Q : Bool → Prop} : wYes sl Q = Q true := rfl
@[simp] theorem wiSeq_e {Q : List T → Prop} : wiSeq a sl Q = a sl fun x => ∃ t ts, x = .val t ∧ t.seq = some ts ∧ Q ts := rfl
@[simp] theorem wiRng1_e {w : WA} {Q : List T → Prop} : wiRng1 w sl Q = w sl fun xs => ∃ n : Int, xs = [.val (.int n)] ∧ -(2 ^ 62) ≤ n ∧ n < 2 ^ 62 ∧ Q (upTo 0 n.toNat) := rfl
@[simp] theorem wiZip_e {w : WA} {Q : List T → Prop} : wiZip w sl Q = w sl fun xs => ∃ ts us, xs = [.val (.lst ts), .val (.tup us)] ∧ Q (List.zipWith (fun x y => T.tup [x, y]) ts us) := rfl
@[simp] theorem wNext_e : wNext k sl = k.nx sl := rfl
@[simp] theorem wSeq_e {v w : WS} : wSeq v w k sl = v { k with nx := fun s => w k s } sl := rfl
@[simp] theorem wAsg_e : wAsg a i k sl = a sl fun x => storable x = true ∧ k.nx (sl.set i x) := rfl
@[simp] theorem storable_val : storable (.val t) = true := rfl
@[simp] theorem storable_dice : storable .dice = true := rfl
@[simp] theorem wOwn_e {w : WL} : wOwn w i k sl = w sl fun ts => ∀ l, k.nx (sl.set i (.own l ts)) := rfl
@[simp] theorem wApp_e : wApp i a k sl = ∃ l ts, nth sl i = .own l ts ∧ ts.length < 1000000 ∧ a sl fun x => ∃ t, x = .val t ∧ k.nx (sl.set i (.own l (ts ++ [t]))) := rfl
@[simp] theorem wFrz_e {w : WS} : wFrz i w k sl = ∃ l ts, nth sl i = .own l ts ∧ w k (sl.set i (.val (.lst ts))) := rfl
@[simp] theorem wIf_e {c : WT} {v w : WS} : wIf c v w k sl = c sl fun b => if b = true then v k sl else w k sl := rfl
@[simp] theorem wRet_e : wRet a k sl = a sl k.rt := rfl
@[simp] theorem wRetN_e : wRetN k sl = k.rt (.val .non) := rfl
@[simp] theorem wNever_e : wNever k sl = False := rfl
@[simp] theorem wDrop_e : wDrop a k sl = a sl fun _ => k.nx sl := rfl
@[simp] theorem wAsgT_e {is : List Nat} : wAsgT a is k sl = a sl fun x => ∃ t sl', x = .val t ∧ (Tg.names is).st t sl = some sl' ∧ k.nx sl' := rfl
@[simp] theorem wPar_e {w : WA} : wPar i j w k sl = w sl fun xs => ∃ x y, xs = [x, y] ∧ storable x = true ∧ storable y = true ∧ k.nx ((sl.set i x).set j y) := rfl
@[simp] theorem wFor_e {wi : WI} {g : Tg} {w : WS} : wFor wi g w k sl = wi sl fun ts => wForL g w k ts sl := rfl
@[simp] theorem wDice_e {pre : List Sl → Prop} {w : WA} : wDice pre w i k sl = w sl fun xs => xs.all isArg = true ∧ pre xs ∧ k.nx (sl.set i .dice) := rfl
@[simp] theorem wDix_e : wDix i sl P = (nth sl i = .dice ∧ ∀ n : Int, P (.val (.int n))) := rfl
@[simp] theorem wDst_e : wDst i a k sl = (nth sl i = .dice ∧ a sl fun x => ∃ n : Int, x = .val (.int n) ∧ k.nx sl) := rfl
@[simp] theorem retK_val : retK P (.val t) = P (.val t) := rfl
@[simp] theorem retK_own {l : Addr} {ts : List T} : retK P (.own l ts) = P (.val (.lst ts)) := rfl
@[simp] theorem isN_val_non : isN (.val .non) = some true := rfl
@[simp] theorem isi_non {n : String} : isiT [.non, .ty n] = (kitB "NoneType" n).map fun b => .bl b := rfl
@[simp] theorem isi_bl {b : Bool} {n : String} : isiT [.bl b, .ty n] = (kitB "bool" n).map fun b => .bl b := rfl
@[simp] theorem isN_val_bl {b : Bool} : isN (.val (.bl b)) = some false := rfl
@[simp] theorem isi_int {i : Int} {n : String} : isiT [.int i, .ty n] = (kitB "int" n).map fun b => .bl b := rfl
@[simp] theorem isN_val_int {i : Int} : isN (.val (.int i)) = some false := rfl
@[simp] theorem isi_str {x : Str} {n : String} : isiT [.str x, .ty n] = (kitB "str" n).map fun b => .bl b := rfl
@[simp] theorem isN_val_str {x : Str} : isN (.val (.str x)) = some false := rfl
@[simp] theorem isi_tup {ts : List T} {n : String} : isiT [.tup ts, .ty n] = (kitB "tuple" n).map fun b => .bl b := rfl
@[simp] theorem isN_val_tup {ts : List T} : isN (.val (.tup ts)) = some false := rfl
@[simp] theorem isi_lst {ts : List T} {n : String} : isiT [.lst ts, .ty n] = (kitB "list" n).map fun b => .bl b := rfl
@[simp] theorem isN_val_lst {ts : List T} : isN (.val (.lst ts)) = some false := rfl
@[simp] theorem isi_scr {ts : List T} {n : String} : isiT [.scr ts, .ty n] = (kitB "list" n).map fun b => .bl b := rfl
@[simp] theorem isN_val_scr {ts : List T} : isN (.val (.scr ts)) = some false := rfl
@[simp] theorem isi_dct {ks : List Key} {us : List T} {n : String} : isiT [.dct ks us, .ty n] = (kitB "dict" n).map fun b => .bl b := rfl
@[simp] theorem isN_val_dct {ks : List Key} {us : List T} : isN (.val (.dct ks us)) = some false := rfl
@[simp] theorem kb_NoneType_int : kitB "NoneType" "int" = some false := by decide +kernel
@[simp] theorem kb_NoneType_bool : kitB "NoneType" "bool" = some false := by decide +kernel
@[simp] theorem kb_NoneType_str : kitB "NoneType" "str" = some false := by decide +kernel
@[simp] theorem kb_NoneType_tuple : kitB "NoneType" "tuple" = some false := by decide +kernel
@[simp] theorem kb_NoneType_list : kitB "NoneType" "list" = some false := by decide +kernel
@[simp] theorem kb_NoneType_dict : kitB "NoneType" "dict" = some false := by decide +kernel
@[simp] theorem kb_bool_int : kitB "bool" "int" = some true := by decide +kernel
@[simp] theorem kb_bool_bool : kitB "bool" "bool" = some true := by decide +kernel
@[simp] theorem kb_bool_str : kitB "bool" "str" = some false := by decide +kernel
@[simp] theorem kb_bool_tuple : kitB "bool" "tuple" = some false := by decide +kernel
@[simp] theorem kb_bool_list : kitB "bool" "list" = some false := by decide +kernel
@[simp] theorem kb_bool_dict : kitB "bool" "dict" = some false := by decide +kernel
@[simp] theorem kb_int_int : kitB "int" "int" = some true := by decide +kernel
@[simp] theorem kb_int_bool : kitB "int" "bool" = some false := by decide +kernel
@[simp] theorem kb_int_str : kitB "int" "str" = some false := by decide +kernel
@[simp] theorem kb_int_tuple : kitB "int" "tuple" = some false := by decide +kernel
@[simp] theorem kb_int_list : kitB "int" "list" = some false := by decide +kernel
@[simp] theorem kb_int_dict : kitB "int" "dict" = some false := by decide +kernel
@[simp] theorem kb_str_int : kitB "str" "int" = some false := by decide +kernel
@[simp] theorem kb_str_bool : kitB "str" "bool" = some false := by decide +kernel
@[simp] theorem kb_str_str : kitB "str" "str" = some true := by decide +kernel
@[simp] theorem kb_str_tuple : kitB "str" "tuple" = some false := by decide +kernel
@[simp] theorem kb_str_list : kitB "str" "list" = some false := by decide +kernel
@[simp] theorem kb_str_dict : kitB "str" "dict" = some false := by decide +kernel
@[simp] theorem kb_tuple_int : kitB "tuple" "int" = some false := by decide +kernel
@[simp] theorem kb_tuple_bool : kitB "tuple" "bool" = some false := by decide +kernel
@[simp] theorem kb_tuple_str : kitB "tuple" "str" = some false := by decide +kernel
@[simp] theorem kb_tuple_tuple : kitB "tuple" "tuple" = some true := by decide +kernel
@[simp] theorem kb_tuple_list : kitB "tuple" "list" = some false := by decide +kernel
@[simp] theorem kb_tuple_dict : kitB "tuple" "dict" = some false := by decide +kernel
@[simp] theorem kb_list_int : kitB "list" "int" = some false := by decide +kernel
@[simp] theorem kb_list_bool : kitB "list" "bool" = some false := by decide +kernel
@[simp] theorem kb_list_str : kitB "list" "str" = some false := by decide +kernel
@[simp] theorem kb_list_tuple : kitB "list" "tuple" = some false := by decide +kernel
@[simp] theorem kb_list_list : kitB "list" "list" = some true := by decide +kernel
@[simp] theorem kb_list_dict : kitB "list" "dict" = some false := by decide +kernel
@[simp] theorem kb_dict_int : kitB "dict" "int" = some false := by decide +kernel
@[simp] theorem kb_dict_bool : kitB "dict" "bool" = some false := by decide +kernel
@[simp] theorem kb_dict_str : kitB "dict" "str" = some false := by decide +kernel
@[simp] theorem kb_dict_tuple : kitB "dict" "tuple" = some false := by decide +kernel
@[simp] theorem kb_dict_list : kitB "dict" "list" = some false := by decide +kernel
@[simp] theorem kb_dict_dict : kitB "dict" "dict" = some true := by decide +kernel
@[simp] theorem isN_own {l : Addr} {ts : List T} : isN (.own l ts) = some false := rfl
@[simp] theorem truT_bl {b : Bool} : truT (.bl b) = some b := rfl
@[simp] theorem truT_int {i : Int} : truT (.int i) = some (i != 0) := rfl
@[simp] theorem truT_tup {ts : List T} : truT (.tup ts) = some (!ts.isEmpty) := rfl
@[simp] theorem truT_lst {ts : List T} : truT (.lst ts) = some (!ts.isEmpty) := rfl
@[simp] theorem seq_tup {ts : List T} : (T.tup ts).seq = some ts := rfl
@[simp] theorem seq_lst {ts : List T} : (T.lst ts).seq = some ts := rfl
@[simp] theorem seq_scr {ts : List T} : (T.scr ts).seq = some ts := rfl
@[simp] theorem addT_int {i j : Int} : addT (.int i) (.int j) = some (.int (i + j)) := rfl
@[simp] theorem addT_tup {xs ys : List T} : addT (.tup xs) (.tup ys) = if few (xs.length + ys.length) = true then some (.tup (xs ++ ys)) else none := rfl
@[simp] theorem addT_lst {xs ys : List T} : addT (.lst xs) (.lst ys) = if few (xs.length + ys.length) = true then some (.lst (xs ++ ys)) else none := rfl
@[simp] theorem subT_int {i j : Int} : subT (.int i) (.int j) = some (.int (i - j)) := rfl
@[simp] theorem mulT_int {i j : Int} : mulT (.int i) (.int j) = if wide i j = true then some (.int (i * j)) else none := rfl
@[simp] theorem divT_int {i j : Int} : divT (.int i) (.int j) = if divOk j = true then some (.int (i / j)) else none := rfl
@[simp] theorem modT_int {i j : Int} : modT (.int i) (.int j) = if decide (0 < j) = true then some (.int (i % j)) else none := rfl
@[simp] theorem powT_int {i j : Int} : powT (.int i) (.int j) = if powOk i j = true then some (.int (i ^ j.toNat)) else none := rfl
@[simp] theorem negT_int {i : Int} : negT (.int i) = some (.int (-i)) := rfl
@[simp] theorem ltT_int {i j : Int} : ltT (.int i) (.int j) = some (.bl (decide (i < j))) := rfl
@[simp] theorem leT_int {i j : Int} : leT (.int i) (.int j) = some (.bl (decide (i ≤ j))) := rfl
@[simp] theorem gtT_int {i j : Int} : gtT (.int i) (.int j) = some (.bl (decide (j < i))) := rfl
@[simp] theorem geT_int {i j : Int} : geT (.int i) (.int j) = some (.bl (decide (j ≤ i))) := rfl
@[simp] theorem leT_bl {i : Int} {b : Bool} : leT (.int i) (.bl b) = none := rfl
@[simp] theorem lenT_tup {ts : List T} : lenT [.tup ts] = some (.int ts.length) := rfl
@[simp] theorem lenT_lst {ts : List T} : lenT [.lst ts] = some (.int ts.length) := rfl
@[simp] theorem lenT_scr {ts : List T} : lenT [.scr ts] = some (.int ts.length) := rfl
@[simp] theorem absT_int {i : Int} : absT [.int i] = some (.int (if i < 0 then -i else i)) := rfl
@[simp] theorem max2T_int {i j : Int} : max2T [.int i, .int j] = some (.int (if j > i then j else i)) := rfl
@[simp] theorem min2T_int {i j : Int} : min2T [.int i, .int j] = some (.int (if j < i then j else i)) := rfl
@[simp] theorem intT_int {i : Int} : intT [.int i] = some (.int i) := rfl
@[simp] theorem intT_bl {b : Bool} : intT [.bl b] = some (.int (if b then 1 else 0)) := rfl
@[simp] theorem reprT_bl {b : Bool} : reprT [.bl b] = some (.str (if b then "True" else "False")) := rfl
@[simp] theorem tupleT_lst {ts : List T} : tupleT [.lst ts] = some (.tup ts) := rfl
@[simp] theorem tupleT_tup {ts : List T} : tupleT [.tup ts] = some (.tup ts) := rfl
@[simp] theorem sumT_ints {ns : List Int} : sumT [.lst (ns.map T.int)] = some (.int ns.sum) := by
  show (intsOf (ns.map T.int)).map _ = _
  rw [intsOf_map]
  rfl
@[simp] theorem allT_bls {ns : List Bool} : allT [.lst (ns.map T.bl)] = some (.bl (ns.all id)) := by
  show (blsOf (ns.map T.bl)).map _ = _
  rw [blsOf_map]
  rfl
@[simp] theorem slT_tup {ts : List T} {lo hi : Option Int} : slT (.tup ts) lo hi = some (.tup (cutT ts lo hi)) := rfl
@[simp] theorem ixT_tup {ts : List T} {i : Int} : ixT (.tup ts) (.int i) = atI ts i := rfl
@[simp] theorem ixT_lst {ts : List T} {i : Int} : ixT (.lst ts) (.int i) = atI ts i := rfl
@[simp] theorem ixT_scr {ts : List T} {i : Int} : ixT (.scr ts) (.int i) = atI ts i := rfl
end
theorem atI_ok {α : Type} {xs : List α} {i : Int} {x : α} (h0 : 0 ≤ i) (h : xs[i.toNat]? = some x) : atI xs i = some x := by
  have hl : i.toNat < xs.length := (List.getElem?_eq_some_iff.mp h).1
  unfold atI ixN
  rw [if_pos h0, if_pos (by omega)]
  exact h
end Tr


set_option Elab.async false
set_option linter.all false
set_option maxRecDepth 100000
set_option maxHeartbeats 0
namespace Tr
open PySem PySem.Spec PyProof.Rows L2
variable [Tabl]
section
variable {sl : List Sl} {P : Sl → Prop} {k : Ks} {a b : WE} {i j : Nat} {t : T}
@[simp] theorem wiEnum_e {w : WA} {Q : List T → Prop} : wiEnum w sl Q = w sl fun xs => ∃ t ts, xs = [.val t] ∧ (t = .lst ts ∨ t = .tup ts) ∧ Q (enT 0 ts) := rfl
@[simp] theorem wFld_e {C : Addr} {f : Str} : wFld C f a sl P = a sl fun x => ∃ ns ts t, x = .val (.ins C ns ts) ∧ (ns.zip ts).lookup f = some t ∧ P (.val t) := rfl
@[simp] theorem wMake_e {C : Addr} {n m : Nat} {is : List (Bool × Nat)} {dts : List T} {wf : WM} {v w : WA} : wMake C n m is dts wf v w sl P = v sl fun xs => w sl fun ys => xs.length = n ∧ ys.length = m ∧ xs.all isArg = true ∧ ys.all isArg = true ∧ wf (xs ++ pickL is (dts.map Sl.val) ys) fun ns ts => P (.val (.ins C ns ts)) := rfl
@[simp] theorem wOwnEq_e {C : Addr} {wf : WF} : wOwnEq C wf a b sl P = a sl fun x => b sl fun y => ∃ ns ts u, x = .val (.ins C ns ts) ∧ y = .val u ∧ tyOk C u ∧ wf [x, y] fun z => ∃ r, z = .val (.bl r) ∧ P z := rfl
@[simp] theorem wStrI_e {C : Addr} {wf : WF} {w : WA} : wStrI C wf w sl P = w sl fun xs => ∃ ns ts, xs = [.val (.ins C ns ts)] ∧ wf xs fun z => ∃ r, z = .val (.str r) ∧ P z := rfl
@[simp] theorem wIsI_e {C : Addr} : wIsI C a sl P = a sl fun x => ∃ t b, x.tree = some t ∧ isI C t = some b ∧ P (.val (.bl b)) := rfl
@[simp] theorem wLstRg1_e {Q : List T → Prop} : wLstRg1 a sl Q = a sl fun x => ∃ n : Int, x = .val (.int n) ∧ 0 ≤ n ∧ n ≤ 100000 ∧ Q (upTo 0 n.toNat) := rfl
@[simp] theorem wDictP_e {w : WA} : wDictP w sl P = w sl fun xs => ∃ ts kvt, xs = [.val (.lst ts)] ∧ pairsT ts = some kvt ∧ (kvt.map (·.1)).Nodup ∧ P (.val (.dct (kvt.map (·.1)) (kvt.map (·.2)))) := rfl
@[simp] theorem wDGet_e : wDGet a b sl P = a sl fun x => b sl fun y => ∃ ks ts u k t, x.tree = some (.dct ks ts) ∧ y = .val u ∧ keyT u = some k ∧ ((ks.zip ts).find? fun kv => decide (kv.1 = k)).map (·.2) = some t ∧ P (.val t) := rfl
@[simp] theorem wParOV_e {w : WL} : wParOV i j w a k sl = w sl fun ts => a sl fun x => storable x = true ∧ ∀ l, k.nx ((sl.set i (.own l ts)).set j x) := rfl
@[simp] theorem wSto_e : wSto i a b k sl = ∃ l ts, nth sl i = .own l ts ∧ b sl fun x => ∃ t, x = .val t ∧ a sl fun y => ∃ (n : Int) (j : Nat), y = .val (.int n) ∧ ixN ts.length n = some j ∧ k.nx (sl.set i (.own l (ts.set j t))) := rfl
end
/-- enumerate, each item told by a function -/
def enM (f : Nat → T → T) : Nat → List T → List T
  | _, [] => []
  | k, t :: r => f k t :: enM f (k + 1) r
end Tr


set_option Elab.async false
set_option linter.all false
set_option maxRecDepth 100000
set_option maxHeartbeats 0
/-! Dicts over trees: read, made, written -/
namespace Tr
open PySem PySem.Spec PyProof.Rows L2
variable [Tabl]
section
variable {X : Cx} {K : PySem.W.Frag}
/-! ### 1. what a dict holds -/
def getK (ks : List Key) (ts : List T) (k : Key) : Option T := ((ks.zip ts).find? fun kv => decide (kv.1 = k)).map (·.2)
theorem getK_rep {A : Avoid} {H : Hp} {k : Key} : ∀ {ks : List Key} {vs : List V} {ts : List T}, RepAll K A H vs ts → (∀ t, getK ks ts k = some t → ∃ v, valV (ks.zip vs) k = some v ∧ Rep K A H v t) ∧ (getK ks ts k = none → valV (ks.zip vs) k = none)
  | [], vs, ts, _ => ⟨fun t e => by unfold getK at e; simp at e, fun _ => rfl⟩
  | n :: ns, _, _, .nil => ⟨fun t e => by unfold getK at e; simp at e, fun _ => rfl⟩
  | n :: ns, _, _, .cons (v := v) (t := u) (vs := vs) (ts := ts) h r => by
    obtain ⟨i1, i2⟩ := getK_rep (ks := ns) (k := k) r
    unfold getK at i1 i2 ⊢
    rw [List.zip_cons_cons, List.zip_cons_cons, List.find?_cons]
    by_cases q : n = k
    · rw [show decide (n = k) = true from decide_eq_true q]
      refine ⟨fun t e => ?_, fun e => by cases e⟩
      cases e
      exact ⟨v, valV_pos q, h⟩
    · rw [show decide (n = k) = false from decide_eq_false q, valV_neg q]
      exact ⟨i1, i2⟩
theorem getK_or {A : Avoid} {H : Hp} {k : Key} {ks : List Key} {vs : List V} {ts : List T} {v0 : V} {t0 : T} (r : RepAll K A H vs ts) (r0 : Rep K A H v0 t0) : Rep K A H ((valV (ks.zip vs) k).getD v0) ((getK ks ts k).getD t0) := by
  obtain ⟨h1, h2⟩ := getK_rep (ks := ks) (k := k) r
  cases e : getK ks ts k with
  | none => rw [h2 e]; exact r0
  | some t =>
    obtain ⟨v, e2, q⟩ := h1 t e
    rw [e2]
    exact q
theorem SlOk.val {D A0 A : Avoid} {H : Hp} {v : V} {t : T} (h : SlOk K D A0 A H v (.val t)) : Rep K A H v t := h
/-- d.get(k), d.get(k, x) -/
def wDGet1 (a b : WE) : WE := fun sl P => a sl fun x => ∃ ks ts, x.tree = some (.dct ks ts) ∧ b sl fun y => ∃ u k, y = .val u ∧ keyT u = some k ∧ P (.val ((getK ks ts k).getD .non))
def wDGet2 (a b c : WE) : WE := fun sl P => a sl fun x => ∃ ks ts, x.tree = some (.dct ks ts) ∧ b sl fun y => c sl fun z => ∃ u k d, y = .val u ∧ keyT u = some k ∧ z = .val d ∧ P (.val ((getK ks ts k).getD d))
theorem ge_dget1 {j : Nat} {o e : Expr} {wa wb : WE} {apos cpos : Pos} (hr : Room j X.A) (ho : GE X o wa) (he : GE X e wb) (m : M1 X o "get" apos e cpos := by exact ⟨rfl, rfl, rfl, rfl⟩) : GE X (.Call (.Attribute o "get" apos) [e] [] cpos) (wDGet1 wa wb) := ge_of (pe_dget1 (hu_of hr) ho he m) fun F D A H σ sl P Q S hw q =>
  ⟨F, D, A, sl, _, S, hw, fun u H1 x b1 ok1 hx => by
    obtain ⟨ks, ts, e0, hb⟩ := hx
    obtain ⟨a, vs, rfl, h, l, ra⟩ := (ok1.reads e0).dct
    refine ⟨a, rfl, .inl ⟨_, h⟩, F, D, A, sl, _, S.beh b1, hb, fun v H2 y b2 ok2 hy => ?_⟩
    obtain ⟨w, k, rfl, ek, hp⟩ := hy
    have r2 := ok2.val
    rw [keyT_ok r2 ek]
    obtain ⟨a', vs', ea, h', l', ra'⟩ := ((ok1.mono S.dA b2).reads e0).dct
    cases ea
    exact ⟨_, .inl ⟨_, k, h', rfl, rfl⟩, q _ H2 (.val _) (b1.trans b2) (getK_or ra' .non) hp⟩⟩
theorem ge_dget2 {j : Nat} {o e f : Expr} {wa wb wc : WE} {apos cpos : Pos} (hr : Room j X.A) (ho : GE X o wa) (he : GE X e wb) (hf : GE X f wc) (m : M2 X o "get" apos e f cpos := by exact ⟨rfl, rfl, rfl, rfl⟩) : GE X (.Call (.Attribute o "get" apos) [e, f] [] cpos) (wDGet2 wa wb wc) := ge_of (pe_dget2 (hu_of hr) ho he hf m) fun F D A H σ sl P Q S hw q =>
  ⟨F, D, A, sl, _, S, hw, fun u H1 x b1 ok1 hx => by
    obtain ⟨ks, ts, e0, hb⟩ := hx
    obtain ⟨a, vs, rfl, h, l, ra⟩ := (ok1.reads e0).dct
    refine ⟨a, rfl, .inl ⟨_, h⟩, F, D, A, sl, _, S.beh b1, hb, fun v H2 y b2 ok2 hy => ⟨F, D, A, sl, _, (S.beh b1).beh b2, hy, fun v3 H3 z b3 ok3 hz => ?_⟩⟩
    obtain ⟨w, k, d, rfl, ek, rfl, hp⟩ := hz
    have r2 := ok2.val
    rw [keyT_ok r2 ek]
    obtain ⟨a', vs', ea, h', l', ra'⟩ := ((ok1.mono S.dA (b2.trans b3)).reads e0).dct
    cases ea
    exact ⟨_, .inl ⟨_, k, h', rfl, rfl⟩, q _ H3 (.val _) ((b1.trans b2).trans b3) (getK_or ra' ok3.val) hp⟩⟩
/-- k in d, k not in d -/
def wDIn (neg : Bool) (a b : WE) : WE := fun sl P => a sl fun x => b sl fun y => ∃ u k ks ts, x = .val u ∧ keyT u = some k ∧ y.tree = some (.dct ks ts) ∧ P (.val (.bl (if neg = true then !(getK ks ts k).isSome else (getK ks ts k).isSome)))
/-! ### 2. a fresh dict -/
abbrev WD := List Sl → (List Key → List T → Prop) → Prop
def dOf (K : PySem.W.Frag) (w : WD) : TE := fun σ H Q => ∃ F D A sl P, Sta K F D A H σ sl ∧ w sl P ∧ ∀ p H' ks vs ts, Beh D H H' → H p = none → p ∉ A → H' p = some (.dK (ks.zip vs)) → ks.length = vs.length → RepAll K (p :: A) H' vs ts → P ks ts → Q (.ref p) H'
abbrev GD (X : Cx) (e : Expr) (w : WD) : Prop := PE X e (dOf X.K w)
def SD (K : PySem.W.Frag) (t : TE) (w : WD) : Prop := ∀ F D A H σ sl P Q, Sta K F D A H σ sl → w sl P → (∀ p H' ks vs ts, Beh D H H' → H p = none → p ∉ A → H' p = some (.dK (ks.zip vs)) → ks.length = vs.length → RepAll K (p :: A) H' vs ts → P ks ts → Q (.ref p) H') → t σ H Q
theorem gd_of {e : Expr} {t : TE} {w : WD} (h : PE X e t) (s : SD X.K t w) : GD X e w := ⟨fun pins st σ H Q I ⟨F, D, A, sl, P, S, hw, q⟩ => h.run pins st σ H Q I (s F D A H σ sl P Q S hw q)⟩
def wD (w : WD) : WE := fun sl P => w sl fun ks ts => P (.val (.dct ks ts))
theorem GD.ge {e : Expr} {w : WD} (h : GD X e w) : GE X e (wD w) := ge_of h fun F D A H σ sl P Q S hw q =>
  ⟨F, D, A, sl, _, S, hw, fun p H' ks vs ts be hp hA hv l r hx => q _ H' (.val (.dct ks ts)) be (Rep.dct hA (.inl hv) l (r.sub fun a ha => List.mem_cons_of_mem _ ha)) hx⟩
def wDNew : WD := fun _ P => P [] []
/-- dict(d) -/
def wDCopy (a : WA) : WD := fun sl P => a sl fun xs => ∃ x ks ts, xs = [x] ∧ x.tree = some (.dct ks ts) ∧ P ks ts
theorem gd_copy {x : Str} {e : Expr} {a : WA} {p pos : Pos} (hg : Gl X x) (hm : X.mg x = none) (hv : bootBuiltins x = some (.type "dict")) (ha : GA X [e] a)
    (hn : x ≠ "__name__" := by decide) (hdb : (x == ("__debug__" : Str)) = false := by decide) (he : starEach [e] X.env = (false, eval e X.env) :: starEach [] X.env := by rfl) (hpl : (backTo pos (starEach [] X.env)).any (·.1) = false := by rfl) :
    GD X (.Call (.Name x p) [e] [] pos) (wDCopy a) := gd_of (pe_callTy call_dictD hg hm hv ha hn hdb he hpl) fun F D A H σ sl P Q S hw q =>
  ⟨F, D, A, sl, _, S, hw, fun vs H1 xs b1 oks hx => by
    obtain ⟨z, ks, ts, rfl, e0, hp⟩ := hx
    cases oks with
    | cons ok r =>
      cases r
      obtain ⟨b, us, rfl, hl, l, ra⟩ := (ok.reads e0).dct
      refine ⟨b, _, rfl, hl, fun p hpn => ?_⟩
      have S1 := S.beh b1
      exact q p _ ks us ts (b1.trans (Beh.of_ext S1 (Ext.new hpn))) (fresh_back S.dice b1 hpn) (fresh_notin S1.alive hpn) upd_same l ((ra.more hpn).mono (Ext.new hpn)) hp⟩
/-! ### 3. a dict of one's own -/
def wOwnD (e : WD) (i : Nat) : WS := fun k sl => e sl fun ks ts => ∀ l, k.nx (sl.set i (.ownd l ks ts))
theorem gs_ownD (i : Nat) {x : Str} {e : Expr} {w : WD} {p pos : Pos} (he : GD X e w) (hN : X.N.Nodup) (hi : X.N[i]? = some x := by rfl) (hx : Loc X.env.scope x := by first | exact Or.inl rfl | exact Or.inr rfl)
    (hf : X.fn x = true ∨ X.env.scope.names.lookup x = some .local := by first | exact .inl rfl | exact .inr rfl)
    (hs : swapsWithSole [.Name x p] e pos.line X.env = pure false := by rfl) (hw : swappedStores [.Name x p] e X.env = pure none := by rfl) (h1 : (assignEach [.Name x p] X.env).map (·.2) = [assign (.Name x p) X.env] := by rfl) :
    GS X (.Assign [.Name x p] e pos) (wOwnD w i) := gs_of (ps_asg he (pg_name hN hi hx hf) hs hw h1) fun E σ H ⟨F, D, A, sl, k, S, hw, q1, _⟩ =>
  ⟨F, D, A, sl, _, S, hw, fun p H1 ks vs ts b1 hp hA hv l r hx => q1 _ _ _ _ _ (sta_ob (ow := .dct ks ts) S b1 hp hA ⟨vs, hv, l, r⟩) (hx p)⟩
/-- in its place, or at the end -/
def hasK (k : Key) (ks : List Key) : Bool := ks.any fun n => decide (n = k)
def putKs (k : Key) (ks : List Key) : List Key := if hasK k ks = true then ks else ks ++ [k]
def replV {α : Type} (k : Key) (t : α) : List Key → List α → List α
  | n :: r, u :: us => (if n = k then t else u) :: replV k t r us
  | _, _ => []
def putVs {α : Type} (k : Key) (t : α) (ks : List Key) (ts : List α) : List α := if hasK k ks = true then replV k t ks ts else ts ++ [t]
theorem repl_len {α : Type} {k : Key} {t : α} : ∀ {ks : List Key} {ts : List α}, ks.length = ts.length → (replV k t ks ts).length = ks.length
  | [], [], _ => rfl
  | n :: r, u :: us, h => by
    rw [replV, List.length_cons, List.length_cons, repl_len (by simpa using h)]
theorem zip_any {k : Key} : ∀ {ks : List Key} {vs : List V}, ks.length = vs.length → ((ks.zip vs).any fun kv => decide (kv.1 = k)) = hasK k ks
  | [], [], _ => rfl
  | n :: r, u :: us, h => by
    have ih := zip_any (k := k) (ks := r) (vs := us) (by simpa using h)
    unfold hasK at ih ⊢
    rw [List.zip_cons_cons, List.any_cons, List.any_cons, ih]
theorem zip_repl {k : Key} {v : V} : ∀ {ks : List Key} {vs : List V}, ks.length = vs.length → (ks.zip vs).map (fun kv => if kv.1 = k then (kv.1, v) else kv) = ks.zip (replV k v ks vs)
  | [], [], _ => rfl
  | n :: r, u :: us, h => by
    have ih := zip_repl (k := k) (v := v) (ks := r) (vs := us) (by simpa using h)
    rw [replV, List.zip_cons_cons, List.zip_cons_cons, List.map_cons, ih]
    congr 1
    by_cases e : n = k
    · rw [if_pos e, if_pos e]
    · rw [if_neg e, if_neg e]
theorem put_zip {k : Key} {v : V} {ks : List Key} {vs : List V} (h : ks.length = vs.length) : putK (ks.zip vs) k v = (putKs k ks).zip (putVs k v ks vs) := by
  unfold putK putKs putVs
  rw [zip_any h]
  by_cases e : hasK k ks = true
  · rw [if_pos e, if_pos e, if_pos e]
    exact zip_repl h
  · rw [if_neg e, if_neg e, if_neg e, List.zip_append h]
    rfl
theorem put_length {α : Type} {k : Key} {t : α} {ks : List Key} {ts : List α} (h : ks.length = ts.length) : (putKs k ks).length = (putVs k t ks ts).length := by
  unfold putKs putVs
  by_cases e : hasK k ks = true
  · rw [if_pos e, if_pos e, repl_len h]
  · rw [if_neg e, if_neg e, List.length_append, List.length_append, h]
    rfl
theorem repl_rep {A : Avoid} {H : Hp} {k : Key} {v : V} {t : T} (h : Rep K A H v t) : ∀ {ks : List Key} {vs : List V} {ts : List T}, RepAll K A H vs ts → RepAll K A H (replV k v ks vs) (replV k t ks ts)
  | [], _, _, _ => .nil
  | _ :: _, _, _, .nil => .nil
  | n :: ks, _, _, .cons q r => by
    rw [replV, replV]
    refine .cons ?_ (repl_rep h r)
    by_cases e : n = k
    · rw [if_pos e, if_pos e]; exact h
    · rw [if_neg e, if_neg e]; exact q
theorem put_repA {A : Avoid} {H : Hp} {k : Key} {v : V} {t : T} {ks : List Key} {vs : List V} {ts : List T} (h : Rep K A H v t) (r : RepAll K A H vs ts) : RepAll K A H (putVs k v ks vs) (putVs k t ks ts) := by
  unfold putVs
  by_cases e : hasK k ks = true
  · rw [if_pos e, if_pos e]; exact repl_rep h r
  · rw [if_neg e, if_neg e]; exact r.append (.cons h .nil)
def dropKs (k : Key) (ks : List Key) : List Key := ks.filter fun n => decide (n ≠ k)
def dropVs {α : Type} (k : Key) : List Key → List α → List α
  | n :: r, u :: us => if n = k then dropVs k r us else u :: dropVs k r us
  | _, _ => []
theorem drop_zip {k : Key} : ∀ {ks : List Key} {vs : List V}, ks.length = vs.length → dropK (ks.zip vs) k = (dropKs k ks).zip (dropVs k ks vs) ∧ (dropKs k ks).length = (dropVs k ks vs).length
  | [], [], _ => ⟨rfl, rfl⟩
  | n :: r, u :: us, h => by
    obtain ⟨i1, i2⟩ := drop_zip (k := k) (ks := r) (vs := us) (by simpa using h)
    unfold dropKs at i2
    unfold dropK dropKs at i1
    unfold dropK dropKs
    rw [dropVs, List.zip_cons_cons, List.filter_cons, List.filter_cons]
    by_cases e : n = k
    · rw [if_neg (by simp [e]), if_neg (by simp [e]), if_pos e]
      exact ⟨i1, i2⟩
    · rw [if_pos (by simp [e]), if_pos (by simp [e]), if_neg e, i1]
      exact ⟨rfl, by rw [List.length_cons, List.length_cons, i2]⟩
theorem drop_rep {A : Avoid} {H : Hp} {k : Key} : ∀ {ks : List Key} {vs : List V} {ts : List T}, RepAll K A H vs ts → RepAll K A H (dropVs k ks vs) (dropVs k ks ts)
  | [], _, _, _ => .nil
  | _ :: _, _, _, .nil => .nil
  | n :: ks, _, _, .cons q r => by
    rw [dropVs, dropVs]
    by_cases e : n = k
    · rw [if_pos e, if_pos e]; exact drop_rep r
    · rw [if_neg e, if_neg e]; exact .cons q (drop_rep r)
/-- x[k] = e, x a dict of one's own -/
def wDPut (i : Nat) (ix e : WE) : WS := fun k sl => e sl fun x => ∃ t, x = .val t ∧ ∃ l ks ts, nth sl i = .ownd l ks ts ∧ ks.length < 1000000 ∧ ix sl fun y => ∃ u n, y = .val u ∧ keyT u = some n ∧ k.nx (sl.set i (.ownd l (putKs n ks) (putVs n t ks ts)))
theorem nth_ob {sl : List Sl} {i : Nat} {l : Addr} {o : OwnT} (h : nth sl i = .ob l o) : sl[i]? = some (.ob l o) := by
  unfold nth at h
  cases e : sl[i]? with
  | none => rw [e] at h; cases h
  | some x => rw [e] at h; rw [← h]; rfl
theorem gs_dput {j : Nat} (i : Nat) {x : Str} {ix e : Expr} {wi we : WE} {p pos pos' : Pos} (hr : Room j X.A) (hi : GE X ix wi) (he : GE X e we) (hN : X.N[i]? = some x := by rfl) (hv : Vis X.env.scope x := by first | exact Or.inl rfl | exact Or.inr (Or.inl rfl) | exact Or.inr (Or.inr rfl)) (hd : (x == ("__debug__" : Str)) = false := by decide)
    (hcd : (x == ("__classdict__" : Str)) = false := by decide) (hs : swapsWith e (some (.Subscript (.Name x p) ix pos')) pos.line X.env = pure false := by rfl) :
    GS X (.Assign [.Subscript (.Name x p) ix pos'] e pos) (wDPut i wi we) := gs_of (ps_dput (hu_of hr) (pe_var hN hv hd hcd) hi he hs) fun E σ H ⟨F, D, A, sl, k, S, hw, q1, _⟩ =>
  ⟨F, D, A, sl, _, S, hw, fun v H1 x b1 ok hx => by
    obtain ⟨t, rfl, l, ks, ts, hn, hl, hy⟩ := hx
    have S1 := S.beh b1
    obtain ⟨u, hu, okl⟩ := S1.get (nth_ob hn) (fun z => nomatch z)
    obtain ⟨rfl, h1, h2, h3, vs, hD, len, ra⟩ := okl
    refine ⟨.ref l, hu, F, D, A, sl, _, S1, hy, fun y H2 z b2 ok2 hz => ?_⟩
    obtain ⟨w, n, rfl, ek, hp⟩ := hz
    have S2 := S1.beh b2
    rw [keyT_ok ok2.val ek]
    have hD2 : H2 l = some (.dK (ks.zip vs)) := b2.ext _ _ h3 hD
    have ra2 := ra.mono (ext_da S1.dA b2.ext)
    refine ⟨l, _, rfl, DPut.k hD2 (by rw [List.length_zip]; exact sz_lt (by omega)), q1 _ _ _ _ _ (S2.growO (o' := .dct (putKs n ks) (putVs n t ks ts)) (nth_ob hn) ?_) hp⟩
    refine ⟨putVs n v ks vs, by rw [upd_same, put_zip len], put_length len, ?_⟩
    exact (put_repA ((ok.val).mono (ext_da S1.dA b2.ext)) ra2).mono (Ext.mut h1)⟩
/-- x.pop(k, d): the value is not used -/
def wDPop (i : Nat) (ix e : WE) : WS := fun k sl => ∃ l ks ts, nth sl i = .ownd l ks ts ∧ ix sl fun y => e sl fun z => ∃ u n d, y = .val u ∧ keyT u = some n ∧ z = .val d ∧ k.nx (sl.set i (.ownd l (dropKs n ks) (dropVs n ks ts)))
end
end Tr


set_option Elab.async false
set_option linter.all false
set_option maxRecDepth 100000
set_option maxHeartbeats 0
/-! Readings of what may raise: beside the normal ends a wish R for the class of the exception -/
namespace Tr
open PySem PySem.Spec PyProof.Rows L2
variable [Tabl]
/-- what an exception keeps: a field and its value -/
abbrev XF := Option (Str × T)
def ExcF (K : PySem.W.Frag) (A : Avoid) (H : Hp) (d : Option Addr) : XF → Prop
  | none => True
  | some p => ∃ dd v, d = some dd ∧ dd ∉ A ∧ H dd = some (.xd [(p.1, v)]) ∧ Rep K A H v p.2
theorem ExcF.sub {K : PySem.W.Frag} {A B : Avoid} {H : Hp} {d : Option Addr} (s : ∀ a ∈ B, a ∈ A) : ∀ {o : XF}, ExcF K A H d o → ExcF K B H d o
  | none, _ => trivial
  | some _, ⟨dd, v, h1, h2, h3, h4⟩ => ⟨dd, v, h1, fun z => h2 (s _ z), h3, h4.sub s⟩
abbrev RX := Value → XF → Prop
abbrev RXs := Value → XF → List Sl → Prop
abbrev WEX := RX → WE
abbrev WSX := RXs → WS
abbrev WFX := RX → WF
def eOfX (K : PySem.W.Frag) (W : L2.WX) (w : WEX) : TE := fun σ H Q => ∃ F D A sl P R, Sta K F D A H σ sl ∧ w R sl P ∧ (∀ v H' x, Beh D H H' → SlOk K D F.A0 A H' v x → P x → Q v H') ∧ ∀ H' cls d o, Beh D H H' → ExcF K A H' d o → R cls o → W cls d σ H'
def sOfX (K : PySem.W.Frag) (W : L2.WX) (w : WSX) : TS := fun E σ H => ∃ F D A sl k R, Sta K F D A H σ sl ∧ w R k sl ∧
  (∀ D' A' H' σ' sl', Sta K F D' A' H' σ' sl' → k.nx sl' → E.nx σ' H') ∧ (∀ D' A' H' σ' sl', Sta K F D' A' H' σ' sl' → k.bk sl' → E.bk σ' H') ∧ (∀ D' A' H' σ' sl', Sta K F D' A' H' σ' sl' → k.ct sl' → E.ct σ' H') ∧
  (∀ D' A' H' σ' sl' v x, Sta K F D' A' H' σ' sl' → SlOk K D' F.A0 A' H' v x → k.rt x → E.rt v H') ∧
  (∀ D' A' H' σ' sl' cls d o, Sta K F D' A' H' σ' sl' → ExcF K A' H' d o → R cls o sl' → W cls d σ' H')
abbrev GEX (X : Cx) (W : L2.WX) (e : Expr) (w : WEX) : Prop := PE X e (eOfX X.K W w)
abbrev GSX (X : Cx) (W : L2.WX) (st : Stmt) (w : WSX) : Prop := PS X st (sOfX X.K W w)
abbrev GSXs (X : Cx) (W : L2.WX) (sts : List Stmt) (w : WSX) : Prop := PSs X sts (sOfX X.K W w)
section
variable {X : Cx} {W : L2.WX}
/-! ### statements -/
theorem gx_of {st : Stmt} {t : TS} {w : WSX} (h : PS X st t) (s : ∀ E σ H, sOfX X.K W w E σ H → t E σ H) : GSX X W st w := ⟨fun pins sh σ H E I q => h.run pins sh σ H E I (s E σ H q)⟩
theorem gxe_of {e : Expr} {t : TE} {w : WEX} (h : PE X e t) (s : ∀ σ H Q, eOfX X.K W w σ H Q → t σ H Q) : GEX X W e w := ⟨fun pins sh σ H Q I q => h.run pins sh σ H Q I (s σ H Q q)⟩
/-- what raises nothing -/
def xL (w : WS) : WSX := fun _ => w
theorem gx_lift {st : Stmt} {w : WS} (h : GS X st w) : GSX X W st (xL w) := gx_of h fun E σ H ⟨F, D, A, sl, k, R, S, hw, q1, q2, q3, q4, _⟩ => ⟨F, D, A, sl, k, S, hw, q1, q2, q3, q4⟩
def xN : WSX := fun _ k sl => k.nx sl
theorem gxs_nil : GSXs X W [] xN := ⟨fun pins sh σ H E I ⟨F, D, A, sl, k, R, S, hw, q, _⟩ => pss_nil.run pins sh σ H E I (q D A H σ sl S hw)⟩
theorem gxs_one {st : Stmt} {w : WSX} (h : GSX X W st w) : GSXs X W [st] w := pss_one h
theorem gxs_lift {sts : List Stmt} {w : WS} (h : GSs X sts w) : GSXs X W sts (xL w) := ⟨fun pins sh σ H E I ⟨F, D, A, sl, k, R, S, hw, q1, q2, q3, q4, _⟩ => h.run pins sh σ H E I ⟨F, D, A, sl, k, S, hw, q1, q2, q3, q4⟩⟩
def xSeq (a b : WSX) : WSX := fun R k => a R { k with nx := fun sl => b R k sl }
theorem gxs_cons {st : Stmt} {rest : List Stmt} {a b : WSX} (h : GSX X W st a) (h2 : GSXs X W rest b) : GSXs X W (st :: rest) (xSeq a b) := ⟨fun pins sh σ H E I ⟨F, D, A, sl, k, R, S, hw, q1, q2, q3, q4, q5⟩ =>
  (pss_cons h h2).run pins sh σ H E I ⟨F, D, A, sl, { k with nx := fun sl' => b R k sl' }, R, S, hw, fun D' A' H' σ' sl' S' hb => ⟨F, D', A', sl', k, R, S', hb, q1, q2, q3, q4, q5⟩, q2, q3, q4, q5⟩⟩
def xIf (c : WT) (a b : WSX) : WSX := fun R k sl => c sl fun v => if v = true then a R k sl else b R k sl
theorem gx_if {c : Expr} {a b : List Stmt} {pos : Pos} {w : WT} {wa wb : WSX} (hc : GT X c w) (ha : GSXs X W a wa) (hb : GSXs X W b wb) : GSX X W (.If c a b pos) (xIf w wa wb) := gx_of (ps_if hc ha hb) fun E σ H ⟨F, D, A, sl, k, R, S, hw, q⟩ =>
  ⟨F, D, A, sl, _, S, hw, fun v H1 b1 hx => by
    cases v with
    | true => exact ⟨F, D, A, sl, k, R, S.beh b1, hx, q⟩
    | false => exact ⟨F, D, A, sl, k, R, S.beh b1, hx, q⟩⟩
def xRet (e : WEX) : WSX := fun R k sl => e (fun c o => R c o sl) sl k.rt
def xDrop (e : WEX) : WSX := fun R k sl => e (fun c o => R c o sl) sl fun _ => k.nx sl
/-- raise X('..') -/
def xRaise (C : Addr) : WSX := fun R _ sl => R (.ref C) none sl
/-! ### expressions -/
def xE (w : WE) : WEX := fun _ => w
/-- the promise of a def that may raise -/
def spX (K : PySem.W.Frag) (wf : WFX) : Sp := fun vs H Q E => ∃ D A xs P R, (∀ d ∈ D, MovAt H d) ∧ (∀ d ∈ D, d ∈ A) ∧ Liv D A H ∧ Paired (ArgOk K D A H) vs xs ∧ wf R xs P ∧ (∀ v H' x, Beh D H H' → RetOk K A H' v x → P x → Q v H') ∧ ∀ cls d o H', Beh D H H' → ExcF K A H' d o → R cls o → E cls d H'
def xCall (wf : WFX) (dts : List T) (a : WA) : WEX := fun R sl P => a sl fun xs => xs.all isArg = true ∧ wf R (xs ++ dts.map Sl.val) P
theorem gxe_call {k : Nat} {f : Addr} {fd : FuncData} {ps : List Str} {wf : WFX} {dvs : List V} {ds : List Value} {dts : List T} {x : Str} {e : Expr} {es : List Expr} {a : WA} {p pos : Pos} (tk : Takes X W)
    (F : FnOk X.prog X.w X.K X.mg X.base (L2.CX X.prog X.w) k f fd ps (spX X.K wf)) (hr : Room k X.A) (hg : Gl X x) (hm : X.mg x = some (.ref f)) (hk : PySem.W.keepIn X.K (.ref f) = true) (hb : Binds X.K fd ps ds) (hd : Vals dvs ds) (hc : CTs dvs dts)
    (ha : GA X (e :: es) a) (hdb : (x == ("__debug__" : Str)) = false := by decide) (he : starEach (e :: es) X.env = (false, eval e X.env) :: starEach es X.env := by rfl) (hpl : (backTo pos (starEach es X.env)).any (·.1) = false := by rfl) :
    GEX X W (.Call (.Name x p) (e :: es) [] pos) (xCall wf dts a) := gxe_of (pe_callSD F hr hg hm hk hb hd (passAt tk) ha hdb he hpl) fun σ H Q ⟨F, D, A, sl, P, R, S, hw, q, q5⟩ =>
  ⟨F, D, A, sl, _, S, hw, fun vs H1 xs b1 oks hx => by
    obtain ⟨e1, hp⟩ := hx
    have S1 := S.beh b1
    refine ⟨D, A, _, P, R, S1.dice, S1.dA, S1.liv, Paired.app (args_ok oks e1) hc.args, hp, fun v H' x b2 ok hx => q v H' x (b1.trans b2) ?_ hx, fun cls d o H' b2 hf hr => q5 H' cls d o (b1.trans b2) hf hr⟩
    cases x with
    | val t => exact ok
    | _ => exact ok.elim⟩
end
/-! ### defs -/
section
variable {P : Program} {w : World} {K : PySem.W.Frag} {mg : Str → Option Value} {base : Heap}
def wDefX (n m : Nat) (ws : WSX) : WFX := fun R xs P => xs.length = n ∧ ws (fun c o _ => R c o) { nx := fun _ => P (.val .non), rt := retK P, bk := fun _ => False, ct := fun _ => False } (xs ++ List.replicate m .any)
theorem fn_treeX {x qual : Str} {params : Arguments} {body : List Stmt} {scope : Scope} {dvs : List V} {kws : List (Str × V)} {f : Addr} {fd : FuncData} {N ps : List Str} {k n m : Nat} {ws : WSX} (F : FunD K x qual params body scope dvs kws f fd) (S : FnScope N ps scope) (hn : ps.length = n) (hm : N.length - n = m)
    (hb : ∀ (cdv : Value) (A : Around) (outer : List Env) (s : Shared) (H : Hp) (E : XK), Room k (A.deeper (envOfC qual scope s.heap.objs.size f cdv)) → Takes (cxOf (L2.CX P w) P w K mg base N qual scope f cdv A outer s H E) (fun cls d _ H' => E cls d H') →
      GSXs (cxOf (L2.CX P w) P w K mg base N qual scope f cdv A outer s H E) (fun cls d _ H' => E cls d H') body ws) :
    FnOk P w K mg base (L2.CX P w) (k + 1) f fd ps (spX K (wDefX n m ws)) := by
  refine F.ok S (fun vs H Q E h => ?_) (fun cdv A outer s H vs Q E hr h => ?_)
  · obtain ⟨D, A, xs, P', R, _, _, _, h4, h5, _⟩ := h
    rw [Paired.length_eq h4, h5.1, hn]
  · obtain ⟨D, A', xs, P', R, h1, h2, h3, h4, h5, q, q5⟩ := h
    refine ⟨_, hb cdv A outer s H E hr (takes_of rfl rfl rfl rfl), ⟨D, A', H, [], []⟩, D, A', _, _, _, start_sta h1 h2 h3 h4 (m := m) (by rw [Paired.length_eq h4, h5.1]; exact hm), h5.2, fun D' A2 H' σ' sl' S' hx => ?_, fun _ _ _ _ _ _ z => z.elim, fun _ _ _ _ _ _ z => z.elim, fun D' A2 H' σ' sl' v x S' ok hx => ?_, fun D' A2 H' σ' sl' cls d o S' hf hx => ?_⟩
    · exact q .non H' (.val .non) ⟨S'.ext, S'.keep⟩ Rep.non hx
    · have be : Beh D H H' := ⟨S'.ext, S'.keep⟩
      cases x with
      | val t => exact q v H' (.val t) be (Rep.sub S'.sub ok) hx
      | ob l ts =>
        obtain ⟨rfl, g1, g2, g3, g4⟩ := ok
        cases ts with
        | lst ts => exact q (.ref l) H' (.val (.lst ts)) be (g4.rep (o := .lst ts) g2 fun _ _ r => r.sub S'.sub) hx
        | dct ks ts => exact q (.ref l) H' (.val (.dct ks ts)) be (g4.rep (o := .dct ks ts) g2 fun _ _ r => r.sub S'.sub) hx
      | any => exact hx.elim
      | dice => exact hx.elim
    · exact q5 cls d o H' ⟨S'.ext, S'.keep⟩ (hf.sub S'.sub) hx
end
end Tr


set_option Elab.async false
set_option linter.all false
set_option maxRecDepth 100000
set_option maxHeartbeats 0
/-! A lambda handed to a def that tries it: what it raises becomes a text -/
namespace Tr
open PySem PySem.Spec PyProof.Rows L2 LamX
variable [Tabl]
/-- all stays but the table at P, which still names q -/
structure Told (P : Addr) (q : Str) (H H1 : Hp) : Prop where
  ext : ∀ b o, b ≠ P → H b = some o → H1 b = some o
  was : TabS H P q
  tab : TabS H1 P q
theorem code_ne {H : Hp} {P c : Addr} {q r : Str} (t : TabS H P q) (h : H c = some (CodeO c r)) : c ≠ P := fun z => by
  obtain ⟨ps, t1, _⟩ := t
  rw [z, t1] at h
  exact codeO_ne ps (Option.some.inj h).symm
theorem Told.code {P c : Addr} {q r : Str} {H H1 : Hp} (t : Told P q H H1) (h : H c = some (CodeO c r)) : H1 c = some (CodeO c r) := t.ext _ _ (code_ne t.was h) h
theorem Told.tabs {P : Addr} {q : Str} {H H1 : Hp} (t : Told P q H H1) {p : Addr} {r : Str} (hu : p = P → r = q) (h : TabS H p r) : TabS H1 p r := by
  by_cases e : p = P
  · rw [hu e, e]; exact t.tab
  · obtain ⟨ps, h1, h2, h3⟩ := h
    exact ⟨ps, t.ext _ _ e h1, h2, fun pos cv hc => by
      obtain ⟨c, e1, e2⟩ := h3 pos cv hc
      exact ⟨c, e1, t.code e2⟩⟩
section
variable {X : Cx} {pins : List (Addr × Obj)} {σ : L2.St} {H : Hp} {s : Shared}
end
section
variable {X : Cx}
/-- what is wished of x(lambda: body) -/
def tLamP (P : Addr) (q : Str) (TT : (XK → Hp → VK → Prop) → Hp → VK → Prop) (t : XK → TE) : TE := fun σ H Q => TabS H P q ∧ ∀ H1, Told P q H H1 → TT (fun E H' Q' => t E σ H' Q') H1 Q
/-! ### try: a() / except X: return '..' / .. / return '..' -/
def wHds (em : Value → Value → Option Bool) (cls : Value) (P : Str → Prop) : List (Value × Str) → Prop
  | [] => False
  | (c, t) :: r => ∃ b, em cls c = some b ∧ (b = true → P t) ∧ (b = false → wHds em cls P r)
def TTmet (K : PySem.W.Frag) (hds : List (Value × Str)) (fine : Str) : (XK → Hp → VK → Prop) → Hp → VK → Prop := fun tl H Q =>
  tl (fun cls _ H' => wHds (PySem.W.exmOne K) cls (fun t => Q (.str t) H') hds) H fun _ H' => Q (.str fine) H'
inductive MetH (mg : Str → Option Value) (sg : Scope) : List ExceptHandler → List (Value × Str) → Prop
  | nil : MetH mg sg [] []
  | cons {x t : Str} {c : Value} {j : Nat} {np p5 p6 p7 : Pos} {hds : List ExceptHandler} {l : List (Value × Str)} (h1 : sg.names.lookup x = some .globalImplicit) (h2 : mg x = some c) (r : MetH mg sg hds l) (h3 : (x == ("__debug__" : Str)) = false := by decide) :
      MetH mg sg (.ExceptHandler (some (.Name x np)) none [.Return (some (.Constant (.str t) j p5)) p6] p7 :: hds) ((c, t) :: l)
def hdT (l : List (Value × Str)) : List (Value × (Addr → Value → Option Addr → TS)) := l.map fun ct => (ct.1, fun _ _ _ => tRet (tC (.str ct.2)))
theorem MetH.ok {Z : Cx} {mg : Str → Option Value} {hds : List ExceptHandler} {l : List (Value × Str)} {sg : Scope} (h : MetH mg sg hds l) (e : Z.env.scope = sg) (em : Z.mg = mg) : HdsOk Z hds (hdT l) := by
  induction h with
  | nil => exact .nil
  | cons h1 h2 r h3 ih => exact .cons ⟨by subst e; exact h1, h3, .inl (by rw [em]; exact h2)⟩ (fun a oe cls d pn _ _ => pss_one (ps_ret pe_str)) ih
end
/-! ### the reading -/
section
variable {X : Cx}
theorem wHds.imp {em : Value → Value → Option Bool} {cls : Value} {P P' : Str → Prop} (f : ∀ t, P t → P' t) : ∀ {l : List (Value × Str)}, wHds em cls P l → wHds em cls P' l
  | [], h => h
  | (c, t) :: r, ⟨b, h1, h2, h3⟩ => ⟨b, h1, fun hb => f t (h2 hb), fun hb => wHds.imp f (h3 hb)⟩
theorem Told.beh {F : Fx} {D A : Avoid} {H H1 : Hp} {σ : L2.St} {sl : List Sl} {P : Addr} {q : Str} (S : Sta X.K F D A H σ sl) (m : (P, q) ∈ Tabl.T) (t : Told P q H H1) : Beh D H H1 where
  ext := fun a o n e => t.ext a o (fun z => n (by rw [z]; exact (S.liv.tabs _ m).1)) e
  dice := fun d hd => ⟨fun ⟨a, b, c, h⟩ => ⟨a, b, c, t.ext _ _ (fun z => by
    obtain ⟨ps, t1, _⟩ := t.was
    rw [z, t1] at h; cases h) h⟩, fun r m2 h => t.tabs (fun e => Tabl.uniq _ m2 _ m e) h⟩
/-- what a lambda raises, as the def that tries it tells it -/
def wMet (em : Value → Value → Option Bool) (l : List (Value × Str)) (fine : Str) (wb : WEX) : WE := fun sl P => wb (fun cls _ => wHds em cls (fun t => P (.val (.str t))) l) sl fun _ => P (.val (.str fine))
end
end Tr


set_option Elab.async false
set_option linter.all false
set_option maxRecDepth 100000
set_option maxHeartbeats 0
/-! A lambda handed to a def that tries it, where the handlers answer any expression that looks at no name -/
namespace Tr
open PySem PySem.Spec PyProof.Rows L2 LamX
variable [Tabl]
section
variable {X : Cx}
def wHdsE (em : Value → Value → Option Bool) (cls : Value) (P : TE → Prop) : List (Value × TE) → Prop
  | [] => False
  | (c, t) :: r => ∃ b, em cls c = some b ∧ (b = true → P t) ∧ (b = false → wHdsE em cls P r)
def TTmetE (K : PySem.W.Frag) (Ng : List Str) (hds : List (Value × TE)) (fine : TE) : (XK → Hp → VK → Prop) → Hp → VK → Prop := fun tl H Q => ∀ f : Addr,
  tl (fun cls _ H' => wHdsE (PySem.W.exmOne K) cls (fun t => ∀ σ, t σ H' Q) hds) H fun _ H' => fine (L2.start Ng [V.ref f]) H' Q
inductive MetHE (K : PySem.W.Frag) (mg : Str → Option Value) (sg : Scope) : List ExceptHandler → List (Value × TE) → Prop
  | nil : MetHE K mg sg [] []
  | cons {x : Str} {e : Expr} {t : TE} {c : Value} {np p6 p7 : Pos} {hds : List ExceptHandler} {l : List (Value × TE)} (h1 : sg.names.lookup x = some .globalImplicit) (h2 : mg x = some c) (he : ∀ Z : Cx, Z.K = K → PE Z e t) (r : MetHE K mg sg hds l) (h3 : (x == ("__debug__" : Str)) = false := by decide) :
      MetHE K mg sg (.ExceptHandler (some (.Name x np)) none [.Return (some e) p6] p7 :: hds) ((c, t) :: l)
def hdE (l : List (Value × TE)) : List (Value × (Addr → Value → Option Addr → TS)) := l.map fun ct => (ct.1, fun _ _ _ => tRet ct.2)
theorem MetHE.ok {Z : Cx} {mg : Str → Option Value} {hds : List ExceptHandler} {l : List (Value × TE)} {sg : Scope} (h : MetHE Z.K mg sg hds l) (e : Z.env.scope = sg) (em : Z.mg = mg) : HdsOk Z hds (hdE l) := by
  induction h with
  | nil => exact .nil
  | cons h1 h2 he r h3 ih => exact .cons ⟨by subst e; exact h1, h3, .inl (by rw [em]; exact h2)⟩ (fun a oe cls d pn _ _ => pss_one (ps_ret (he _ rfl))) ih
end
/-! ### the reading -/
section
variable {X : Cx}
def wHdsW (em : Value → Value → Option Bool) (cls : Value) (P : WE → Prop) : List (Value × WE) → Prop
  | [] => False
  | (c, w) :: r => ∃ b, em cls c = some b ∧ (b = true → P w) ∧ (b = false → wHdsW em cls P r)
theorem wHdsW.to {em : Value → Value → Option Bool} {cls : Value} {K : PySem.W.Frag} {P : WE → Prop} {P' : TE → Prop} (f : ∀ w, P w → P' (eOf K w)) : ∀ {l : List (Value × WE)}, wHdsW em cls P l → wHdsE em cls P' (l.map fun cw => (cw.1, eOf K cw.2))
  | [], h => h
  | (c, t) :: r, ⟨b, h1, h2, h3⟩ => ⟨b, h1, fun hb => f t (h2 hb), fun hb => wHdsW.to f (h3 hb)⟩
inductive MetHW (K : PySem.W.Frag) (mg : Str → Option Value) (sg : Scope) : List ExceptHandler → List (Value × WE) → Prop
  | nil : MetHW K mg sg [] []
  | cons {x : Str} {e : Expr} {wv : WE} {c : Value} {np p6 p7 : Pos} {hds : List ExceptHandler} {l : List (Value × WE)} (h1 : sg.names.lookup x = some .globalImplicit) (h2 : mg x = some c) (he : ∀ Z : Cx, GE Z e wv) (r : MetHW K mg sg hds l) (h3 : (x == ("__debug__" : Str)) = false := by decide) :
      MetHW K mg sg (.ExceptHandler (some (.Name x np)) none [.Return (some e) p6] p7 :: hds) ((c, wv) :: l)
theorem MetHW.e {K : PySem.W.Frag} {mg : Str → Option Value} {sg : Scope} {hds : List ExceptHandler} {l : List (Value × WE)} (h : MetHW K mg sg hds l) : MetHE K mg sg hds (l.map fun cw => (cw.1, eOf K cw.2)) := by
  induction h with
  | nil => exact .nil
  | cons h1 h2 he r h3 ih => exact .cons h1 h2 (fun Z e => by subst e; exact he Z) ih h3
/-- what a lambda raises, as the def that tries it tells it -/
def wMetW (em : Value → Value → Option Bool) (l : List (Value × WE)) (fine : WE) (wb : WEX) : WE := fun sl P =>
  wb (fun cls _ => wHdsW em cls (fun w => ∀ n, w (List.replicate n .any) P) l) sl fun _ => ∀ n, fine (List.replicate n .any) P
theorem slots_any {K : PySem.W.Frag} {D A0 A : Avoid} {H : Hp} : ∀ σ : L2.St, Slots K D A0 A H σ (List.replicate σ.length .any)
  | [] => .nil
  | _ :: r => .cons (.inl rfl) (slots_any r)
theorem Sta.anew {K : PySem.W.Frag} {F : Fx} {D A : Avoid} {H : Hp} {σ : L2.St} {sl : List Sl} (S : Sta K F D A H σ sl) (σ' : L2.St) : Sta K F D A H σ' (List.replicate σ'.length .any) :=
  { S with
    slots := slots_any σ'
    dist := fun i j l l' ts ts' h _ _ => by
      have := List.mem_of_getElem? h
      cases (List.mem_replicate.mp this).2 }
end
end Tr


set_option Elab.async false
set_option linter.all false
set_option maxRecDepth 100000
set_option maxHeartbeats 0
/-! xs[::-1] of lists and tuples; a dict written out with constants -/
namespace HT
open PySem PySem.Spec PyProof.Rows
section
variable {prog : Program} {w : World} {A : Around} {E : Value → Shared → Prop} {s : Shared}
end
end HT
namespace Tr
open PySem PySem.Spec PyProof.Rows L2
variable [Tabl]
section
variable {X : Cx}
def tRevA (K : PySem.W.Frag) (te : TE) : TE := fun σ H Q => te σ H fun x H1 => ∃ a xs, x = .ref a ∧
  ((SqL K H1 a xs ∧ ∀ p, H1 p = none → Q (.ref p) (upd H1 p (.lst xs.reverse))) ∨ (SqT K H1 a xs ∧ ∀ p, H1 p = none → Q (.ref p) (upd H1 p (.tup xs.reverse))))
theorem RepAll.reverse {K : PySem.W.Frag} {A : Avoid} {H : Hp} : ∀ {vs : List V} {ts : List T}, RepAll K A H vs ts → RepAll K A H vs.reverse ts.reverse
  | _, _, .nil => .nil
  | _, _, .cons h r => by
    rw [List.reverse_cons, List.reverse_cons]
    exact (RepAll.reverse r).append (.cons h .nil)
def revT : T → Option T
  | .tup ts => some (.tup ts.reverse)
  | .lst ts => some (.lst ts.reverse)
  | .scr ts => some (.lst ts.reverse)
  | _ => none
/-- xs[::-1] -/
def wRev (a : WE) : WE := fun sl P => a sl fun x => ∃ s z, x.tree = some s ∧ revT s = some z ∧ P (.val z)
/-! ### a dict written out -/
inductive CPair (X : Cx) : Expr → Expr → Key → V → T → TE × TE → Prop
  | mk {k v : Expr} {kk : Key} {c : V} {t : T} (hk : PE X k (tC (kV kk))) (hv : PE X v (tC c)) (r : ∀ K A H, Rep K A H c t) : CPair X k v kk c t (tC (kV kk), tC c)
inductive CDisp (X : Cx) (pos : Pos) : List (Option Expr) → List Expr → List Key → List T → Prop
  | nil : CDisp X pos [] [] [] []
  | cons {k v : Expr} {ks : List (Option Expr)} {vs : List Expr} {kk : Key} {c : V} {t : T} {kks : List Key} {ts : List T} (hk : PE X k (tC (kV kk))) (hv : PE X v (tC c)) (hr : ∀ K A H, Rep K A H c t) (r : CDisp X pos ks vs kks ts) : CDisp X pos (some k :: ks) (v :: vs) (kk :: kks) (t :: ts)
theorem CDisp.ok {pos : Pos} {keys : List (Option Expr)} {values : List Expr} {kks : List Key} {ts : List T} (h : CDisp X pos keys values kks ts) :
    ∃ trs vs, PPs X pos keys values trs ∧ kks.length = vs.length ∧ kks.length = keys.length ∧ (∀ K A H, RepAll K A H vs ts) ∧ ∀ σ H (Q : List (V × V) → Hp → Prop), Q ((kks.zip vs).map fun kv => (kV kv.1, kv.2)) H → tPairs trs σ H Q := by
  induction h with
  | nil => exact ⟨[], [], pps_nil, rfl, rfl, fun _ _ _ => .nil, fun _ _ _ h => h⟩
  | cons hk hv hr r ih =>
    obtain ⟨trs, vs, p, l, l2, ra, run⟩ := ih
    exact ⟨_, _, pps_cons hk hv p, congrArg (· + 1) l, congrArg (· + 1) l2, fun K A H => .cons (hr K A H) (ra K A H), fun σ H Q h => run σ H _ h⟩
def wDCon (ks : List Key) (ts : List T) : WD := fun _ P => P ks ts
theorem mergeK_new : ∀ {more kvs : List (Key × V)}, (kvs ++ more).Pairwise (fun a b => a.1 ≠ b.1) → mergeK kvs more = kvs ++ more
  | [], kvs, _ => by show kvs = kvs ++ []; rw [List.append_nil]
  | p :: r, kvs, h => by
    have hp : putK kvs p.1 p.2 = kvs ++ [p] := by
      have : ∀ q ∈ kvs, q.1 ≠ p.1 := fun q hq => (List.pairwise_append.mp h).2.2 q hq p (List.mem_cons_self ..)
      unfold putK
      rw [if_neg fun z => by
        obtain ⟨q, hq, e⟩ := List.any_eq_true.mp z
        exact this q hq (of_decide_eq_true e)]
    show mergeK (putK kvs p.1 p.2) r = _
    rw [hp, mergeK_new (by rw [List.append_assoc]; exact h), List.append_assoc]
    rfl
theorem gd_con {pos : Pos} {keys : List (Option Expr)} {values : List Expr} {ks : List Key} {ts : List T} (h : CDisp X pos keys values ks ts) (hd : ks.Nodup) (hall : keys.all (·.isSome) = true := by rfl) (hl : keys.length = values.length := by rfl) (h0 : keys ≠ [] := by exact List.cons_ne_nil _ _)
    (h15 : keys.length ≤ 15 := by decide) : GD X (.Dict keys values pos) (wDCon ks ts) := by
  obtain ⟨trs, vs, p, l, l2, ra, run⟩ := h.ok
  exact gd_of (pe_disp p hall hl h0 h15) fun F D A H σ sl P Q S hw q => fun p hp => run _ _ _ ⟨upd_same, ks.zip vs, rfl, by rw [List.length_zip, ← l, Nat.min_self, l2]; exact h15, by
    have e : mergeK [] (ks.zip vs) = ks.zip vs := mergeK_new (by
      rw [List.nil_append]
      have : ((ks.zip vs).map (·.1)).Pairwise (· ≠ ·) := by
        rw [List.map_fst_zip (by rw [l]; exact Nat.le_refl _)]
        exact hd
      exact List.pairwise_map.mp this)
    rw [e]
    refine q p _ ks vs ts (Beh.of_ext S ?_) hp (fresh_notin S.alive hp) upd_same l (ra _ _ _) hw
    exact fun a o n g => by
      have : a ≠ p := fun z => by rw [z, hp] at g; cases g
      rw [upd_ne this, upd_ne this]; exact g⟩
end
end Tr


set_option Elab.async false
set_option linter.all false
set_option maxRecDepth 100000
set_option maxHeartbeats 0
/-! Defs and methods that may raise, called by name -/
namespace Tr
open PySem PySem.Spec PyProof.Rows L2
variable [Tabl]
/-- a wish that doesn't speak of the slots -/
abbrev WC (E : XK) : L2.WX := fun cls d _ H => E cls d H
def CallX (P : Program) (w : World) (K : PySem.W.Frag) (mg : Str → Option Value) (base : Heap) (k : Nat) (x : Str) (wf : WFX) (dvs : List V) : Prop :=
  ∃ (f : Addr) (fd : FuncData) (ps : List Str) (ds : List Value), FnOk P w K mg base (L2.CX P w) k f fd ps (spX K wf) ∧ mg x = some (.ref f) ∧ PySem.W.keepIn K (.ref f) = true ∧ Binds K fd ps ds ∧ Vals dvs ds
def MethX (P : Program) (w : World) (K : PySem.W.Frag) (mg : Str → Option Value) (base : Heap) (k : Nat) (C : Addr) (m : Str) (wf : WFX) (dvs : List V) : Prop :=
  ∃ (f : Addr) (fd : FuncData) (ps : List Str) (ds : List Value), FnOk P w K mg base (L2.CX P w) k f fd ps (spX K wf) ∧ Meth K C m f ∧ Binds K fd ps ds ∧ Vals dvs ds
section
variable {X : Cx} {W : L2.WX} {E : XK}
theorem gxe_callX {j k : Nat} {wf : WFX} {dvs : List V} {dts : List T} {x : Str} {e : Expr} {es : List Expr} {a : WA} {p pos : Pos} (tk : Takes X W) (d : CallX X.prog X.w X.K X.mg X.base k x wf dvs) (hr : Room j X.A) (hg : Gl X x) (hc : CTs dvs dts)
    (ha : GA X (e :: es) a) (hkj : k ≤ j := by decide) (hdb : (x == ("__debug__" : Str)) = false := by decide) (he : starEach (e :: es) X.env = (false, eval e X.env) :: starEach es X.env := by rfl) (hpl : (backTo pos (starEach es X.env)).any (·.1) = false := by rfl) :
    GEX X W (.Call (.Name x p) (e :: es) [] pos) (xCall wf dts a) := by
  obtain ⟨f, fd, ps, ds, F, hm, hk, hb, hd⟩ := d
  exact gxe_call tk F (hr.mono hkj) hg hm hk hb hd hc ha hdb he hpl
def xMeth (C : Addr) (m : Str) (wf : WFX) (dts : List T) (o : WE) (a : WA) : WEX := fun R sl P => o sl fun x => ∃ ns ts, x = .val (.ins C ns ts) ∧ m ∉ ns ∧ a sl fun xs => xs.all isArg = true ∧ wf R (x :: (xs ++ dts.map Sl.val)) P
end
section
variable {P : Program} {w : World} {K : PySem.W.Frag} {mg : Str → Option Value} {base : Heap} {x qual : Str} {params : Arguments} {body : List Stmt} {scope : Scope} {kws : List (Str × V)} {f : Addr} {fd : FuncData} {ps : List Str} {k : Nat} {wf : WFX}
/-- what raises nothing where it is called so, is a def that raises nothing -/
theorem FnOk.calm (G : FnOk P w K mg base (L2.CX P w) k f fd ps (spX K wf)) : FnOk P w K mg base CX0 k f fd ps (spT K (wf fun _ _ => False)) where
  len := fun vs H Q E h => by
    obtain ⟨D, A, xs, P', h1, h2, h3, h4, h5, q⟩ := h
    exact G.len vs H Q (fun _ _ _ => False) ⟨D, A, xs, P', _, h1, h2, h3, h4, h5, q, fun _ _ _ _ _ _ z => z.elim⟩
  run := fun A outer s H args us vs Q E hr e0 hb hv h => by
    obtain ⟨D, A', xs, P', h1, h2, h3, h4, h5, q⟩ := h
    refine codeAny_mono (G.run A outer s H args us vs Q (fun _ _ _ => False) hr e0 hb hv ⟨D, A', xs, P', _, h1, h2, h3, h4, h5, q, fun _ _ _ _ _ _ z => z.elim⟩) fun r s' hq => ?_
    cases r with
    | error e =>
      obtain ⟨_, _, _, _, _, _, _, _, _, _, _, _, z⟩ := hq
      exact z.elim
    | ok fl => cases fl <;> exact hq
end
end Tr


set_option Elab.async false
set_option linter.all false
set_option maxRecDepth 100000
set_option maxHeartbeats 0
/-! __init__ that may raise -/
namespace Tr
open PySem PySem.Spec PyProof.Rows L2
variable [Tabl]
abbrev WNX := RX → WN
def nOfX (K : PySem.W.Frag) (W : L2.WX) (i : Nat) (C : Addr) (w : WNX) : TS := fun E σ H => ∃ F D A sl p ns ts k R, Sta K F D A H σ sl ∧ SelfAt K F D A H σ i p C ns ts ∧ w R k sl ns ts ∧ (∀ H' ns' ts', Sta K F D A H' σ sl → SelfAt K F D A H' σ i p C ns' ts' → k ns' ts' → E.nx σ H') ∧
  ∀ H' cls d o, Sta K F D A H' σ sl → ExcF K A H' d o → R cls o → W cls d σ H'
abbrev GNX (X : Cx) (W : L2.WX) (i : Nat) (C : Addr) (st : Stmt) (w : WNX) : Prop := PS X st (nOfX X.K W i C w)
abbrev GNXs (X : Cx) (W : L2.WX) (i : Nat) (C : Addr) (sts : List Stmt) (w : WNX) : Prop := PSs X sts (nOfX X.K W i C w)
section
variable {X : Cx} {W : L2.WX} {i : Nat} {C : Addr}
def xnL (w : WN) : WNX := fun _ => w
def xnSeq (a b : WNX) : WNX := fun R k sl ns ts => a R (fun ns' ts' => b R k sl ns' ts') sl ns ts
def xnIf (t : WT) (a b : WNX) : WNX := fun R k sl ns ts => t sl fun c => if c = true then a R k sl ns ts else b R k sl ns ts
def xnRaise (B : Addr) : WNX := fun R _ _ _ _ => R (.ref B) none
def xnDrop (e : WEX) : WNX := fun R k sl ns ts => e R sl fun _ => k ns ts
end
/-- what __init__ promises, or raises -/
abbrev WMX := RX → WM
def spNX (K : PySem.W.Frag) (C : Addr) (wf : WMX) : Sp := fun vs H Q E => ∃ D A p dx us H0 xs P R, vs = .ref p :: us ∧ H = upd (upd H0 dx (.own p)) p (.ins C dx []) ∧ H0 p = none ∧ H0 dx = none ∧ dx ≠ p ∧ (∀ d ∈ D, MovAt H0 d) ∧ (∀ d ∈ D, d ∈ A) ∧ Liv D A H0 ∧
  Paired (ArgOk K D A H0) us xs ∧ wf R xs P ∧ (∀ H' dx' ns ws ts, Beh D H0 H' → H' p = some (.ins C dx' (ns.zip ws)) → dx' ∉ A → H0 dx' = none → H' dx' = some (.own p) → ns.length = ws.length → RepAll K (p :: dx' :: A) H' ws ts → P ns ts → Q .non H') ∧ ∀ cls d o H', Beh D H0 H' → ExcF K A H' d o → R cls o → E cls d H'
def wInitX (n m : Nat) (ws : WNX) : WMX := fun R xs P => xs.length = n ∧ ws R P (.any :: (xs ++ List.replicate m .any)) [] []
section
variable {P : Program} {w : World} {K : PySem.W.Frag} {mg : Str → Option Value} {base : Heap}
def MakeX (P : Program) (w : World) (K : PySem.W.Frag) (mg : Str → Option Value) (base : Heap) (k : Nat) (x : Str) (C : Addr) (dts : List T) (wf : WMX) : Prop :=
  ∃ (f : Addr) (fd : FuncData) (ps : List Str) (ds : List Value) (dvs : List V), Mk K C f ∧ FnOk P w K mg base (L2.CX P w) k f fd ps (spNX K C wf) ∧ mg x = some (.ref C) ∧ Binds K fd ps ds ∧ Vals dvs ds ∧ ∀ A H, RepAll K A H dvs dts
def xMake (C : Addr) (dts : List T) (wf : WMX) (a : WA) : WEX := fun R sl P => a sl fun xs => xs.all isArg = true ∧ wf R (xs ++ dts.map Sl.val) fun ns ts => P (.val (.ins C ns ts))
end
section
variable {X : Cx} {E : XK}
end
end Tr


set_option Elab.async false
set_option linter.all false
set_option maxRecDepth 100000
set_option maxHeartbeats 0
/-! Defs that make lambdas: their code object is known; calls without arguments of what may raise -/
namespace Tr
open PySem PySem.Spec PyProof.Rows L2
variable [Tabl]
section
variable {P : Program} {w : World} {K : PySem.W.Frag} {mg : Str → Option Value} {base : Heap}
end
section
variable {X : Cx} {W : L2.WX} {E : XK}
/-- an exception class of one's own over ValueError -/
def ExD (K : PySem.W.Frag) (C : Addr) : Prop := PySem.W.excIn K C He.veBase "ValueError.__new__" = true ∧ PySem.W.keepIn K (.ref C) = true ∧ PySem.W.subIn K (.ref C) (.type "BaseException") = some true ∧ PySem.W.typeIn K (.ref C) = some (.type "type")
end
section
variable {P : Program} {w : World} {K : PySem.W.Frag} {mg : Str → Option Value} {base : Heap}
theorem CallX.of {x qual : Str} {params : Arguments} {body : List Stmt} {scope : Scope} {kws : List (Str × V)} {f : Addr} {fd : FuncData} {ps : List Str} {k : Nat} {wf : WFX} (F : FunD K x qual params body scope [] kws f fd) (G : FnOk P w K mg base (L2.CX P w) k f fd ps (spX K wf)) (hm : mg x = some (.ref f))
    (h : ∀ (kV doc pm : Value) (an : Option Addr) (cdv ct : Value) (us : List Value), us.length = ps.length → bindArgs (PySem.W.fnOf x qual params body scope .none kV doc pm an cdv ct) ⟨us, []⟩ = pure (ps.zip us)) : CallX P w K mg base k x wf [] :=
  ⟨f, fd, ps, [], G, hm, F.kp, F.bindsN h, .nil⟩
theorem CallX.calm {k : Nat} {x : Str} {wf : WFX} {dvs : List V} (d : CallX P w K mg base k x wf dvs) : CallD P w K mg base k x (wf fun _ _ => False) dvs := by
  obtain ⟨f, fd, ps, ds, F, hm, hk, hb, hd⟩ := d
  exact ⟨f, fd, ps, ds, FnOk.calm F, hm, hk, hb, hd⟩
theorem MethX.calm {k : Nat} {C : Addr} {m : Str} {wf : WFX} {dvs : List V} (d : MethX P w K mg base k C m wf dvs) : MethD P w K mg base k C m (wf fun _ _ => False) dvs := by
  obtain ⟨f, fd, ps, ds, F, M, hb, hd⟩ := d
  exact ⟨f, fd, ps, ds, FnOk.calm F, M, hb, hd⟩
end
end Tr


set_option Elab.async false
set_option linter.all false
set_option maxRecDepth 100000
set_option maxHeartbeats 0
/-! more statements and expressions over trees -/
namespace Tr
open PySem PySem.Spec PyProof.Rows L2
variable [Tabl]
section
variable {X : Cx} {K : PySem.W.Frag}
/-! ### x //= e -/
def wAugD (i : Nat) (e : WE) : WS := fun k sl => ∃ a, nth sl i = .val (.int a) ∧ e sl fun x => ∃ b, x = .val (.int b) ∧ divOk b = true ∧ k.nx (sl.set i (.val (.int (a / b))))
/-! ### x.append(y.pop(e)), x and y lists of one's own -/
def wAppPop (i j : Nat) (e : WE) : WS := fun k sl => ∃ l ts l' us, nth sl i = .own l ts ∧ nth sl j = .own l' us ∧ i ≠ j ∧ ts.length < 1000000 ∧ us.length < 1000000 ∧ e sl fun x => ∃ (n : Int) (c : Nat) (t : T), x = .val (.int n) ∧ seqIndex? n us.length = some c ∧ us[c]? = some t ∧ k.nx ((sl.set j (.own l' (us.eraseIdx c))).set i (.own l (ts ++ [t])))
theorem RepAll.erase {A : Avoid} {H : Hp} : ∀ {vs : List V} {ts : List T} (n : Nat), RepAll K A H vs ts → RepAll K A H (vs.eraseIdx n) (ts.eraseIdx n)
  | _, _, _, .nil => .nil
  | _, _, 0, .cons _ r => r
  | _, _, n + 1, .cons q r => .cons q (RepAll.erase n r)
theorem seqIx_bd {n : Int} {m c : Nat} (h : seqIndex? n m = some c) (hm : m < 1000000) : -(2 ^ 63) ≤ n ∧ n < 2 ^ 63 ∧ c < m := by
  unfold seqIndex? at h
  dsimp only at h
  by_cases hn : n < 0
  · rw [if_pos hn] at h
    by_cases e : (decide (0 ≤ n + (m : Int)) && decide (n + (m : Int) < (m : Int))) = true
    · rw [if_pos e] at h
      rw [Bool.and_eq_true, decide_eq_true_eq, decide_eq_true_eq] at e
      cases h
      omega
    · rw [if_neg e] at h; cases h
  · rw [if_neg hn] at h
    by_cases e : (decide (0 ≤ n) && decide (n < (m : Int))) = true
    · rw [if_pos e] at h
      rw [Bool.and_eq_true, decide_eq_true_eq, decide_eq_true_eq] at e
      cases h
      omega
    · rw [if_neg e] at h; cases h
theorem st_appPop {i j : Nat} {w : WE} {E : Ends} {σ : L2.St} {H : Hp} : sOf K (wAppPop i j w) E σ H → tDrop (tBM K "list" rAppend (tVar i) (tCons (tBM K "list" rPopAt (tVar j) (tCons (eOf K w) tNil)) tNil)) E σ H := fun ⟨F, D, A, sl, k, S, hw, q1, _⟩ => by
  obtain ⟨l, ts, l', us, hn, hm, hij, hz, hz2, hw⟩ := hw
  obtain ⟨u, hv, ok⟩ := S.get (nth_own hn) (fun z => nomatch z)
  obtain ⟨e, h1, h2, h3, vs, hl, h5⟩ := ok
  cases e
  obtain ⟨u', hv', ok'⟩ := S.get (nth_own hm) (fun z => nomatch z)
  obtain ⟨e, g1, g2, g3, ws, gl, g5⟩ := ok'
  cases e
  refine ⟨.ref l, hv, .inl ⟨rfl, vs, .inl (.inl hl)⟩, ?_⟩
  refine ⟨.ref l', hv', .inl ⟨rfl, ws, .inl (.inl gl)⟩, F, D, A, sl, _, S, hw, fun v H1 x b1 ok hx => ?_⟩
  obtain ⟨n, c, t, rfl, hc, ht, hp⟩ := hx
  cases ok
  have S1 := S.beh b1
  have gl1 := b1.ext l' _ g3 gl
  have g6 := g5.mono (ext_da S.dA b1.ext)
  have glen : ws.length = us.length := g5.length
  obtain ⟨n1, n2, n3⟩ := seqIx_bd hc hz2
  obtain ⟨y, hy, ry⟩ := g6.get ht
  have hne : l ≠ l' := S.dist i j l l' _ _ (nth_own hn) (nth_own hm) hij
  have S2 := S1.growO (o' := .lst (us.eraseIdx c)) (u := .lst (ws.eraseIdx c)) (nth_own hm) ⟨ws.eraseIdx c, upd_same, (g6.erase c).mono (Ext.mut g1)⟩
  refine ⟨l', ws, n, c, y, rfl, rfl, gl1, n1, n2, by rw [glen]; exact hc, hy, ?_⟩
  have hl1 : upd H1 l' (.lst (ws.eraseIdx c)) l = some (.lst vs) := by
    rw [upd_ne hne]
    exact b1.ext l _ h3 hl
  have h6 : RepAll K A (upd H1 l' (.lst (ws.eraseIdx c))) vs ts := (h5.mono (ext_da S.dA b1.ext)).mono (Ext.mut g1)
  have hlen : vs.length = ts.length := h5.length
  have hn2 : (sl.set j (.own l' (us.eraseIdx c)))[i]? = some (.own l ts) := by
    rw [List.getElem?_set_ne (fun z => hij z.symm)]
    exact nth_own hn
  exact ⟨l, vs, y, rfl, rfl, hl1, Tr.sz_lt (by omega), q1 _ _ _ _ _ (S2.grow1 hn2 hl1 (h6.append (.cons (ry.mono (Ext.mut g1)) .nil))) hp⟩
theorem gs_appPop (i j : Nat) {x y : Str} {e : Expr} {w : WE} {p pos cpos apos p' cpos' apos' : Pos} (he : GE X e w) (hN : X.N[i]? = some x := by rfl) (hM : X.N[j]? = some y := by rfl) (hv : Vis X.env.scope x := by first | exact Or.inl rfl | exact Or.inr (Or.inl rfl) | exact Or.inr (Or.inr rfl)) (hv' : Vis X.env.scope y := by first | exact Or.inl rfl | exact Or.inr (Or.inl rfl) | exact Or.inr (Or.inr rfl)) (hd : (x == ("__debug__" : Str)) = false := by decide) (hd' : (y == ("__debug__" : Str)) = false := by decide)
    (hcd : (x == ("__classdict__" : Str)) = false := by decide) (hcd' : (y == ("__classdict__" : Str)) = false := by decide) (hst : starEach (e :: []) X.env = (false, eval e X.env) :: starEach [] X.env := by rfl)
    (hst2 : starEach ((.Call (.Attribute (.Name y p') "pop" apos') [e] [] cpos') :: []) X.env = (false, eval (.Call (.Attribute (.Name y p') "pop" apos') [e] [] cpos') X.env) :: starEach [] X.env := by rfl)
    (hbase : attributeBase (.Name x p) "append" X.env (eval (.Name x p) X.env) = eval (.Name x p) X.env := by rfl)
    (hbase' : attributeBase (.Name y p') "pop" X.env (eval (.Name y p') X.env) = eval (.Name y p') X.env := by rfl)
    (hfew : ((backTo cpos (starEach ((.Call (.Attribute (.Name y p') "pop" apos') [e] [] cpos') :: []) X.env)).all (fun x => !x.1) && (backToKw cpos (keywordEach [] X.env)).all (fun x => x.1.isSome)
      && decide (([.Call (.Attribute (.Name y p') "pop" apos') [e] [] cpos'] : List Expr).length + ([] : List Keyword).length + (if ([] : List Keyword).isEmpty then 0 else 1) < 30)) = true := by rfl)
    (hfew' : ((backTo cpos' (starEach (e :: []) X.env)).all (fun x => !x.1) && (backToKw cpos' (keywordEach [] X.env)).all (fun x => x.1.isSome)
      && decide ((e :: ([] : List Expr)).length + ([] : List Keyword).length + (if ([] : List Keyword).isEmpty then 0 else 1) < 30)) = true := by rfl)
    (hline : (apos.endLine == cpos.line) = true := by rfl) (hline' : (apos'.endLine == cpos'.line) = true := by rfl)
    (hs : swapsWith (.Call (.Attribute (.Name x p) "append" apos) [.Call (.Attribute (.Name y p') "pop" apos') [e] [] cpos'] [] cpos) none pos.line X.env = pure false := by rfl) :
    GS X (.Expr (.Call (.Attribute (.Name x p) "append" apos) [.Call (.Attribute (.Name y p') "pop" apos') [e] [] cpos'] [] cpos) pos) (wAppPop i j w) :=
  gs_of (ps_expr (pe_bm PySem.F.plainAttrs_list PySem.F.slot_list_append PySem.F.type_list_append mt_append (pe_var hN hv hd hcd)
    (pa_cons (pe_bm PySem.F.plainAttrs_list PySem.F.slot_list_pop PySem.F.type_list_pop mt_popAt (pe_var hM hv' hd' hcd') (pa_cons he pa_nil hst) (hbase := hbase') (hfew := hfew') (hline := hline') (hs := hst)) pa_nil hst2) (hbase := hbase) (hfew := hfew) (hline := hline) (hs := hst2)) hs) fun E σ H h => st_appPop h
end
end Tr


set_option Elab.async false
set_option linter.all false
set_option maxRecDepth 100000
set_option maxHeartbeats 0
/-! sorted, max, min over trees that are data -/
namespace L2
open PySem PySem.Spec PyProof.Rows
/-- sorted(xs), xs a list of data (R0 tells of each item what it stands for) -/
def rSortD (K : PySem.W.Frag) : List V → Hp → VK → Prop := fun vs H Q => ∃ (β : Type) (enc : β → PyData) (R0 : V → β → Prop) (a : Addr) (xs : List V) (bs : List β), vs = [V.ref a] ∧ SqL K H a xs ∧ PySem.W.EachIs R0 xs bs ∧ (∀ v b, R0 v b → Dp K H v (enc b)) ∧
  PySem.W.AllAlike (bs.map enc) ∧ PySem.W.Sortable (bs.map enc) ∧ (∀ b ∈ bs, (enc b).depth ≤ 60) ∧ ∀ out p, PySem.W.EachIs R0 out (bs.mergeSort (PySem.W.dataLe false enc)) → H p = none → Q (.ref p) (upd H p (.lst out))
theorem each_len {α β : Type} {R : α → β → Prop} : ∀ {as : List α} {bs : List β}, PySem.W.EachIs R as bs → as.length = bs.length
  | _, _, .nil => rfl
  | _, _, .cons _ r => congrArg (· + 1) (each_len r)
theorem each_vals {β : Type} {R0 : V → β → Prop} : ∀ {us : List Value} {bs : List β}, PySem.W.EachIs (fun u b => ∃ v, RelV v u ∧ R0 v b) us bs → ∃ vs, Vals vs us ∧ PySem.W.EachIs R0 vs bs
  | _, _, .nil => ⟨[], .nil, .nil⟩
  | _, _, .cons ⟨v, h1, h2⟩ r => by
    obtain ⟨vs, a, b⟩ := each_vals r
    exact ⟨v :: vs, .cons h1 a, .cons h2 b⟩
theorem vals_each {β : Type} {R0 : V → β → Prop} : ∀ {vs : List V} {us : List Value} {bs : List β}, Vals vs us → PySem.W.EachIs R0 vs bs → PySem.W.EachIs (fun u b => ∃ v, RelV v u ∧ R0 v b) us bs
  | _, _, _, .nil, .nil => .nil
  | _, _, _, .cons h r, .cons q s => .cons ⟨_, h, q⟩ (vals_each r s)
theorem each_imp {α β : Type} {R S : α → β → Prop} (f : ∀ a b, R a b → S a b) : ∀ {as : List α} {bs : List β}, PySem.W.EachIs R as bs → PySem.W.EachIs S as bs
  | _, _, .nil => .nil
  | _, _, .cons h r => .cons (f _ _ h) (each_imp f r)
section
variable {X : Cx}
theorem cr_sortD (hu : X.A.units + 64 < cLine) : CallR X (.builtin "sorted") (rSortD X.K) := by
  intro pins s σ H vs us Q I r h
  obtain ⟨β, enc, R0, a, xs, bs, rfl, hs, he, hd, hal, hk, hdep, q⟩ := h
  obtain ⟨its, rv, hl, hz⟩ := I.list hs
  rw [Vals.ref1 r]
  have e1 := vals_each rv he
  have hlen : xs.length = bs.length := each_len he
  have er : PySem.W.EachIs (fun v b => ∃ as, Reads s.heap v (enc b) as) its bs := each_imp (fun u b ⟨v, h1, h2⟩ => Dp.reads I (enc b) v u (hd v b h2) h1) e1
  refine PySem.W.sorted_data hl.isList e1 er hal hk (by rw [← hlen]; exact hz) (fun b hb => by have := hdep b hb; omega) fun out ol eo => ?_
  obtain ⟨ws, w1, w2⟩ := each_vals eo
  obtain ⟨ep, he'⟩ := PyProof.Rows.sortedAll_at s.heap its out.toArray
  have hlen2 : ws.length ≤ sizeLine := by
    rw [w1.length, ol, ← hlen]
    exact hz
  exact ⟨.ref _, upd H (s.heap.objs.size + 1) (.lst ws), I.laid (t' := s.toks) (fun _ _ => PyProof.Rows.sortedAll_old) (Nat.le_succ _) ⟨hlen2, out, ep, w1, he'⟩, rfl, q _ _ w2 (I.hok.fresh (Nat.le_succ _))⟩
/-- max(xs, default=d), min(xs, default=d): xs a list of whole numbers -/
def rMaxDf (K : PySem.W.Frag) : List V → List V → Hp → VK → Prop := fun vs zs H Q => ∃ (a : Addr) (ns : List Int) (d : Int), vs = [V.ref a] ∧ zs = [V.int d] ∧ SqL K H a (ns.map V.int) ∧ Q (.int (match ns with | [] => d | n :: r => r.foldl max n)) H
def rMinDf (K : PySem.W.Frag) : List V → List V → Hp → VK → Prop := fun vs zs H Q => ∃ (a : Addr) (ns : List Int) (d : Int), vs = [V.ref a] ∧ zs = [V.int d] ∧ SqL K H a (ns.map V.int) ∧ Q (.int (match ns with | [] => d | n :: r => r.foldl min n)) H
theorem map_cons {ns : List Int} {y : PyData} {ys : List PyData} (e : ns.map PyData.int = y :: ys) : ∃ n r, ns = n :: r ∧ y = .int n ∧ ys = r.map .int := by
  cases ns with
  | nil => cases e
  | cons n r => cases e; exact ⟨n, r, rfl, rfl, rfl⟩
end
end L2
namespace Tr
open PySem PySem.Spec PyProof.Rows L2
variable [Tabl]
section
variable {X : Cx} {K : PySem.W.Frag}
/-- max(xs, default=d) of a list of whole numbers -/
def wDf (f : Int → Int → Int) (a d : WA) : WE := fun sl P => a sl fun xs => d sl fun ys => ∃ (x : Sl) (ns : List Int) (i : Int), xs = [x] ∧ x.tree = some (.lst (ns.map T.int)) ∧ ys = [.val (.int i)] ∧ P (.val (.int (match ns with | [] => i | n :: r => r.foldl f n)))
/-! sorted(xs): a new list -/
def datD (t : T) : PyData := (dat t).getD .none
/-- trees that sorted takes -/
structure Srt (ts : List T) : Prop where
  dat : ∀ t ∈ ts, (dat t).isSome
  alike : PySem.W.AllAlike (ts.map datD)
  able : PySem.W.Sortable (ts.map datD)
  deep : ∀ t ∈ ts, (datD t).depth ≤ 60
def sortT (ts : List T) : List T := ts.mergeSort (PySem.W.dataLe false datD)
def wSorted (a : WA) : WL := fun sl P => a sl fun xs => ∃ x ts, xs = [x] ∧ x.tree = some (.lst ts) ∧ Srt ts ∧ P (sortT ts)
theorem each_rep {A : Avoid} {H : Hp} : ∀ {vs : List V} {ts : List T}, RepAll K A H vs ts → (∀ t ∈ ts, (dat t).isSome) → PySem.W.EachIs (fun v t => Rep K A H v t ∧ (dat t).isSome) vs ts
  | _, _, .nil, _ => .nil
  | _, _, .cons h r, d => .cons ⟨h, d _ List.mem_cons_self⟩ (each_rep r fun t ht => d t (List.mem_cons_of_mem _ ht))
theorem rep_each {A : Avoid} {H : Hp} : ∀ {vs : List V} {ts : List T}, PySem.W.EachIs (fun v t => Rep K A H v t ∧ (dat t).isSome) vs ts → RepAll K A H vs ts
  | _, _, .nil => .nil
  | _, _, .cons h r => .cons h.1 (rep_each r)
theorem gl_sorted {j : Nat} {x : Str} {e : Expr} {a : WA} {p pos : Pos} (hr : Room j X.A) (hg : Gl X x) (hm : X.mg x = none) (hv : bootBuiltins x = some (.builtin "sorted")) (ha : GA X [e] a)
    (hn : x ≠ "__name__" := by decide) (hdb : (x == ("__debug__" : Str)) = false := by decide) (he : starEach [e] X.env = (false, eval e X.env) :: starEach [] X.env := by rfl) (hpl : (backTo pos (starEach [] X.env)).any (·.1) = false := by rfl) :
    GL X (.Call (.Name x p) [e] [] pos) (wSorted a) := gl_of (pe_callB (cr_sortD hr.units) hg hm hv ha hn hdb he hpl) fun F D A H σ sl P Q S hw q =>
  ⟨F, D, A, sl, _, S, hw, fun vs H1 xs b1 oks hx => by
    obtain ⟨x, ts, rfl, e1, hs, hp⟩ := hx
    have S1 := S.beh b1
    cases oks with
    | cons ok r =>
      cases r
      obtain ⟨a, vs, rfl, h, r⟩ := (ok.reads e1).lst
      refine ⟨T, datD, fun v t => Rep X.K A H1 v t ∧ (dat t).isSome, a, vs, ts, rfl, .inl (.inl h), each_rep r hs.dat, fun v b ⟨h1, h2⟩ => ?_, hs.alike, hs.able, hs.deep, fun out p eo hpn => ?_⟩
      · obtain ⟨d, ed⟩ := Option.isSome_iff_exists.mp h2
        unfold datD
        rw [ed]
        exact dat_ok h1 ed
      · exact q p _ out (sortT ts) (b1.trans (Beh.of_ext S1 (Ext.new hpn))) (fresh_back S.dice b1 hpn) (fresh_notin S1.alive hpn) upd_same (((rep_each eo).more hpn).mono (Ext.new hpn)) hp⟩
end
end Tr


set_option Elab.async false
set_option linter.all false
set_option maxRecDepth 100000
set_option maxHeartbeats 0
/-! set(xs), xs a list of whole numbers and texts; len(set(xs)) -/
namespace SK
open PySem PySem.Spec PyProof.Rows L2
section
variable {κ : Type} [DecidableEq κ]
def stepD (l : List κ) (v : κ) : List κ := if v ∈ l then l else l ++ [v]
def firstsN (val : Nat → κ) : Nat → List κ
  | 0 => []
  | i + 1 => stepD (firstsN val i) (val i)
theorem firstsN_len (val : Nat → κ) : ∀ i, (firstsN val i).length ≤ i
  | 0 => Nat.le_refl _
  | i + 1 => by
    have ih := firstsN_len val i
    show (stepD (firstsN val i) (val i)).length ≤ i + 1
    unfold stepD
    split
    · omega
    · rw [List.length_append, List.length_singleton]; omega
theorem stepD_mem {l : List κ} {v k : κ} : k ∈ stepD l v ↔ k ∈ l ∨ k = v := by
  unfold stepD
  split
  · rename_i h
    exact ⟨.inl, fun z => z.elim id fun e => e ▸ h⟩
  · rw [List.mem_append, List.mem_singleton]
theorem stepD_len (l : List κ) (v : κ) : (stepD l v).length = if decide (v ∈ l) = true then l.length else l.length + 1 := by
  unfold stepD
  by_cases h : v ∈ l
  · rw [if_pos h, if_pos (decide_eq_true h)]
  · rw [if_neg h, if_neg (by rw [decide_eq_false h]; exact Bool.false_ne_true), List.length_append]
    rfl
/-- the members of a list, each once -/
def firsts (l : List κ) : List κ := l.foldl stepD []
theorem firstsN_list (l : List κ) (d : κ) : ∀ i, i ≤ l.length → firstsN (fun i => l.getD i d) i = firsts (l.take i)
  | 0, _ => rfl
  | i + 1, h => by
    have e : l.take (i + 1) = l.take i ++ [l[i]] := by rw [List.take_add_one, List.getElem?_eq_getElem (by omega)]; rfl
    show stepD (firstsN _ i) _ = _
    rw [firstsN_list l d i (by omega), e]
    unfold firsts
    rw [List.foldl_append]
    show stepD _ (l.getD i d) = stepD _ l[i]
    rw [List.getD_eq_getElem?_getD, List.getElem?_eq_getElem (by omega)]
    rfl
theorem mem_fold {k : κ} : ∀ (l a : List κ), k ∈ l.foldl stepD a ↔ k ∈ a ∨ k ∈ l
  | [], a => by simp
  | x :: l, a => by
    show k ∈ l.foldl stepD (stepD a x) ↔ _
    rw [mem_fold l, stepD_mem, List.mem_cons]
    exact or_assoc
theorem mem_firsts {l : List κ} {k : κ} : k ∈ firsts l ↔ k ∈ l := by
  unfold firsts
  rw [mem_fold]
  simp
theorem fold_nodup : ∀ (l a : List κ), a.Nodup → (l.foldl stepD a).Nodup
  | [], a, h => h
  | x :: l, a, h => by
    refine fold_nodup l _ ?_
    unfold stepD
    split
    · exact h
    · rename_i hx
      refine List.nodup_append.mpr ⟨h, by simp, fun y hy z hz => ?_⟩
      rw [List.mem_singleton.mp hz]
      exact fun e => hx (e ▸ hy)
theorem nodup_firsts (l : List κ) : (firsts l).Nodup := fold_nodup l [] .nil
theorem fold_len : ∀ (l a : List κ), (l.foldl stepD a).length ≤ a.length + l.length
  | [], a => Nat.le_refl _
  | x :: l, a => by
    have := fold_len l (stepD a x)
    have h2 := stepD_len a x
    show (l.foldl stepD (stepD a x)).length ≤ _
    rw [List.length_cons]
    split at h2 <;> omega
theorem firsts_len (l : List κ) : (firsts l).length ≤ l.length := by
  have := fold_len l ([] : List κ)
  rw [List.length_nil, Nat.zero_add] at this
  exact this
end
section
variable {prog : Program} {w : World} {A : Around} {R : Result → Shared → Prop} {I : Addr} {fp wr : List Addr} {G : Array GenState → Array GenState → Prop} {n : Nat} {P : Nat → Value → Prop} {St : Nat → Shared → Prop}
end
section
variable {P : Program} {w : World} {A : Around} {E : Value → Shared → Prop} {s : Shared}
end
/-- len(set(xs)), xs a list of whole numbers and texts -/
def tLenK (K : PySem.W.Frag) (ta : TE) : TE := fun σ H Q => ta σ H fun x H1 => ∃ (l : Addr) (ks : List Key), x = .ref l ∧ SqL K H1 l (ks.map kV) ∧ ks.length ≤ 4000 ∧ Q (.int ((firsts ks).length : Nat)) H1
end SK
namespace Tr
open PySem PySem.Spec PyProof.Rows L2
variable [Tabl]
section
variable {X : Cx} {K : PySem.W.Frag}
/-- the keys that trees are -/
def keysT : List T → Option (List Key)
  | [] => some []
  | t :: r => (keyT t).bind fun k => (keysT r).map fun ks => k :: ks
def wLenSet (a : WE) : WE := fun sl P => a sl fun x => ∃ ts ks, x.tree = some (.lst ts) ∧ keysT ts = some ks ∧ ks.length ≤ 4000 ∧ P (.val (.int ((SK.firsts ks).length : Nat)))
end
end Tr


set_option Elab.async false
set_option linter.all false
set_option maxRecDepth 100000
set_option maxHeartbeats 0
/-! max, min of three whole numbers -/
namespace M3
open PySem PyProof.Rows
section
variable {prog : Program} {w : World} {A : Around} {E : Value → Shared → Prop} {s : Shared}
end
end M3
namespace L2
open PySem PySem.Spec PyProof.Rows
section
variable {X : Cx}
end
end L2
namespace Tr
open PySem PySem.Spec PyProof.Rows L2
section
variable {K : PySem.W.Frag} {A : Avoid} {H : Hp}
def max3T : List T → Option T
  | [.int i, .int j, .int l] => some (.int (max (max i j) l))
  | _ => none
def min3T : List T → Option T
  | [.int i, .int j, .int l] => some (.int (min (min i j) l))
  | _ => none
end
end Tr


set_option Elab.async false
set_option linter.all false
set_option maxRecDepth 100000
set_option maxHeartbeats 0
/-! xs == [], xs != [] of lists of any items -/
namespace L2
open PySem PySem.Spec PyProof.Rows
def rEmp (K : PySem.W.Frag) (g : Bool → Bool) : R2 := fun x y H Q => ∃ (a b : Addr) (xs : List V), x = .ref a ∧ y = .ref b ∧ SqL K H a xs ∧ SqL K H b [] ∧ Q (.bl (g xs.isEmpty)) H
section
variable {X : Cx}
theorem op_neE (hu : X.A.units < cLine) : OpR X (compareOp .NotEq) (rEmp X.K fun b => !b) := by
  intro pins s σ H x y v u Q I rx ry h
  obtain ⟨a, b, xs, rfl, rfl, ha, hb, q⟩ := h
  cases rx
  cases ry
  obtain ⟨its, r, hl, hz⟩ := I.list ha
  obtain ⟨its2, r2, hl2, hz2⟩ := I.list hb
  cases r2
  have hlen := r.length
  show wpAny (model X.prog X.w) X.A (richCompare .NotEq (.ref a) (.ref b)) (EP X pins σ Q) X.xe s
  cases xs with
  | nil =>
    cases r
    exact SeqAt.RcNeAt.lists (e := fun _ => true) hl.isList hl2.isList rfl hu (fun j h1 h2 => by simp at h1) X.prog X.w _ _ ⟨.bl false, H, I, rfl, q⟩
  | cons z zs =>
    refine SeqAt.RcNeAt.lists_lengths hl.isList hl2.isList ?_ hu X.prog X.w _ _ ⟨.bl true, H, I, rfl, q⟩
    cases r
    rfl
end
end L2
namespace Tr
open PySem PySem.Spec PyProof.Rows L2
section
variable {K : PySem.W.Frag}
def neE : T → T → Option T
  | .lst ts, .lst [] => some (.bl (!ts.isEmpty))
  | _, _ => none
def eqE : T → T → Option T
  | .lst ts, .lst [] => some (.bl ts.isEmpty)
  | _, _ => none
theorem sop_neE : SOp K (rEmp K fun b => !b) neE := fun A H u v x y z Q al ru rv e q => by
  cases x with
  | lst ts =>
    cases y with
    | lst us =>
      cases us with
      | nil =>
        cases e
        obtain ⟨a, vs, rfl, h1, r1⟩ := ru.lst
        obtain ⟨b, ws, rfl, h2, r2⟩ := rv.lst
        cases r2
        refine ⟨a, b, vs, rfl, rfl, .inl (.inl h1), .inl (.inl h2), ?_⟩
        have e : vs.isEmpty = ts.isEmpty := by cases r1 <;> rfl
        rw [e]
        exact q _ _ (Ext.refl H) (.bl _)
      | cons _ _ => cases e
    | _ => cases e
  | _ => cases e
end
end Tr
namespace L2
open PySem PySem.Spec PyProof.Rows
end L2
namespace Tr
open PySem PySem.Spec PyProof.Rows L2
variable [Tabl]
section
variable {K : PySem.W.Frag}
/-- x in a list of data -/
def inD (neg : Bool) (x t : T) : Option T := match t with
  | .lst ts => if (shp x && shp (.lst ts)) = true then some (.bl (if neg = true then !(ts.any fun y => eqB y x) else ts.any fun y => eqB y x)) else none
  | _ => none
end
section
variable {X : Cx} {K : PySem.W.Frag}
/-! ### not e as a value, by truth -/
def wNotT (a : WE) : WE := fun sl P => a sl fun x => ∃ t b, x.tree = some t ∧ truT t = some b ∧ P (.val (.bl (!b)))
end
end Tr


set_option Elab.async false
set_option linter.all false
set_option maxRecDepth 100000
set_option maxHeartbeats 0
/-! t == () of a tuple of any items -/
namespace L2
open PySem PySem.Spec PyProof.Rows
def rEmT (K : PySem.W.Frag) : R2 := fun x y H Q => ∃ (a b : Addr) (xs : List V), x = .ref a ∧ y = .ref b ∧ SqT K H a xs ∧ SqT K H b [] ∧ Q (.bl xs.isEmpty) H
section
variable {X : Cx}
end
end L2
namespace Tr
open PySem PySem.Spec PyProof.Rows L2
section
variable {K : PySem.W.Frag}
def eqU : T → T → Option T
  | .tup ts, .tup [] => some (.bl ts.isEmpty)
  | _, _ => none
end
end Tr


set_option Elab.async false
set_option linter.all false
set_option maxRecDepth 100000
set_option maxHeartbeats 0
/-! x is True, x is False; rows that are never reached -/
namespace L2
open PySem PySem.Spec PyProof.Rows
def rIs2 (g : Bool → Bool) : R2 := fun x y H Q => ∃ b c, x = .bl b ∧ y = .bl c ∧ Q (.bl (g (b == c))) H
section
variable {X : Cx}
end
end L2
namespace Tr
open PySem PySem.Spec PyProof.Rows L2
variable [Tabl]
section
variable {X : Cx} {K : PySem.W.Frag}
def is2 (g : Bool → Bool) : T → T → Option T
  | .bl b, .bl c => some (.bl (g (b == c)))
  | _, _ => none
/-! ### what is never reached -/
def wDead : WS := fun _ _ => False
def wDeadE : WE := fun _ _ => False
end
end Tr
namespace Tr
open PySem PySem.Spec PyProof.Rows L2
variable [Tabl]
section
variable {X : Cx} {K : PySem.W.Frag}
/-- f(_law_dice(..)): the dice are made for the call alone -/
def wOnDice (pre : List Sl → Prop) (wf : WF) (a : WA) : WE := fun sl P => a sl fun xs => xs.all isArg = true ∧ pre xs ∧ wf [.dice] P
end
end Tr


set_option Elab.async false
set_option linter.all false
set_option maxRecDepth 100000
set_option maxHeartbeats 0
/-! the end of a law whose defs make lambdas, and may use repr of data -/
namespace L2
open PySem PySem.Spec PyProof.Rows LamX
section
variable {P : Program} {w : World} {K : PySem.W.Frag} {mg mb : Str → Option Value} {CX : CXT} {k : Nat} {fa a : Addr} {fd : FuncData} {x : Str} {sp : Sp} {S : Shared} {vs : List Value} {ns : List Int} {cs : List (Addr × Addr)}
abbrev emptyO : Obj := { cls := .none, data := .fields #[] }
/-- nothing but the script and the tables is tracked in H -/
structure OnlyT (P : Program) (w : World) (K : PySem.W.Frag) (S : Shared) (a : Addr) (cs : List (Addr × Addr)) (H : Hp) : Prop where
  only : ∀ b, H b = none ∨ b ∈ cs.map Prod.snd ∨ ∃ o xs, H b = some (.frz o (.lst xs))
  tab : ∀ p ∈ cs, H p.2 = some (.tbl #[])
  ok : HOk P w H S.heap
  at_ : ∀ b, H b ≠ none → b = a ∨ b ∈ cs.map Prod.snd
  out : H a ≠ none → K.lookup a = none
theorem tab_at (hT : ∀ p ∈ cs, S.heap.get? p.2 = some emptyO) {b : Addr} (h : b ∈ cs.map Prod.snd) : S.heap.get? b = some emptyO := by
  obtain ⟨p, hp, rfl⟩ := List.mem_map.mp h
  exact hT p hp
theorem OnlyT.free {H : Hp} (o : OnlyT P w K S a cs H) (ha : S.heap.get? a = some { cls := .type "list", data := .seq vs.toArray }) (hT : ∀ p ∈ cs, S.heap.get? p.2 = some emptyO) {b : Addr} {ob : Obj} (e : S.heap.get? b = some ob) (h1 : ∀ us n, ob.data ≠ .seq us n) (h2 : ob.data ≠ .fields #[]) : H b = none := by
  refine Classical.byContradiction fun z => ?_
  rcases o.at_ b z with q | q
  · subst q
    rw [ha] at e
    obtain rfl := Option.some.inj e
    exact h1 _ _ rfl
  · rw [tab_at hT q] at e
    obtain rfl := Option.some.inj e
    exact h2 rfl
theorem lawTG_at {H : Hp} (KX : K.In S.heap) (hns : S.heap.Ns mainGlobals mg) (hb : S.heap.Ns builtinsNs mb) (hbb : ∀ x : Str, x ≠ "__name__" → mb x = bootBuiltins x) (hlim : S.heap.NoLimit) (hg : S.gens = #[])
    (hT : ∀ p ∈ cs, S.heap.get? p.2 = some emptyO) (nT : ∀ p ∈ cs, K.lookup p.2 = none) (C : ∀ p ∈ cs, PySem.W.CodeHd S.heap p.1 p.2)
    (hbm : ∃ (bm : Addr) (ob : Obj), mg "__builtins__" = some (.ref bm) ∧ bm ≠ builtinsNs ∧ S.heap.get? bm = some ob ∧ ob.cls = .type "module" ∧ ob.dict = some builtinsNs ∧ ob.data = .plain)
    (ha : S.heap.get? a = some { cls := .type "list", data := .seq vs.toArray }) (hr : Room k callerA)
    (F : ∀ base : Heap, K.In base → base.Ns mainGlobals mg → (∀ p ∈ cs, TabB base mg p.1 p.2) → FnG P w K mg base CX k fa fd [x] sp) (hbind : ∀ (s : Shared) (u : Value), BindsTo s fd ⟨[u], []⟩ [(x, u)])
    (want : sp [.ref a] H (fun v _ => v = .bl true) fun _ _ _ => False) (hCX : ∀ H e s', CX [] H S (fun _ _ _ => False) e s' → False) (o : OnlyT P w K S a cs H) :
    codeAny (model P w) callerA (.call (.ref fa) ⟨[.ref a], []⟩) (Yes S) S := by
  have keep : ∀ {b : Addr} {ob : Obj}, S.heap.get? b = some ob → H b = none → (hidT S.heap H).get? b = some ob := fun e n => hidT_get e n
  have dct : ∀ {b : Addr} {ob : Obj} {es : Array DictEntry} {ep : Nat}, S.heap.get? b = some ob → ob.data = .dict es ep → H b = none := fun e d => o.free ha hT e (fun us n z => by rw [d] at z; exact nomatch z) fun z => by rw [d] at z; exact nomatch z
  have names : ∀ {b : Addr} {m : Str → Option Value}, S.heap.Ns b m → (hidT S.heap H).Ns b m := by
    rintro b m ⟨ob, es, ep, e, d, r⟩
    exact ⟨ob, es, ep, keep e (dct e d), d, r⟩
  have inB : K.In (hidT S.heap H) := by
    intro b ob e
    refine keep (KX b ob e) (Classical.byContradiction fun z => ?_)
    rcases o.at_ b z with q | q
    · subst q
      rw [o.out z] at e
      exact nomatch e
    · obtain ⟨p, hp, rfl⟩ := List.mem_map.mp q
      rw [nT p hp] at e
      exact nomatch e
  obtain ⟨mc, l1, l2⟩ := hlim
  have md : L2.Mod K mg (hidT S.heap H) := ⟨inB, names hns, ⟨mb, names hb, hbb⟩, ⟨mc, names l1, l2⟩⟩
  have env : Env0 P w K mg (hidT S.heap H) callerA [] S H :=
    { frames := rfl, mod := md, bs := fun b ob e => of_hidT e, bsz := Nat.le_of_eq (hidT_size _ _), funs := trivial, frf := fun b z => (List.not_mem_nil z).elim, hok := o.ok, bare := .of_eq hg }
  have tabs : ∀ p ∈ cs, TabB (hidT S.heap H) mg p.1 p.2 := by
    intro p hp
    have here := hT p hp
    constructor
    · obtain ⟨oc, us, file, tf, flags, tg, inF, text, tt, e1, r1, r2, r3, r4⟩ := C p hp
      refine ⟨oc, us, file, tf, flags, tg, inF, text, tt, keep e1 (o.free ha hT e1 (fun _ _ z => ?_) fun z => ?_), r1, r2, r3, r4⟩
      · rw [r2] at z; exact nomatch z
      · rw [r2] at z
        injection z with z
        rw [z] at r3
        exact nomatch r3
    · obtain ⟨bm, ob, b1, b2, b3, b4, b5, b6⟩ := hbm
      have n1 : bm ≠ mainGlobals := by
        rintro rfl
        obtain ⟨_, _, _, e, d, _⟩ := hns
        rw [e] at b3
        obtain rfl := Option.some.inj b3
        rw [d] at b6
        exact nomatch b6
      have n2 : bm ≠ p.2 := by
        rintro rfl
        rw [here] at b3
        obtain rfl := Option.some.inj b3
        exact nomatch b6
      exact ⟨bm, ob, b1, b2, n1, n2, keep b3 (o.free ha hT b3 (fun _ _ z => by rw [b6] at z; exact nomatch z) fun z => by rw [b6] at z; exact nomatch z), b4, b5, b6⟩
    · intro z
      obtain ⟨_, _, _, e, d, _⟩ := hns
      rw [z, here] at e
      obtain rfl := Option.some.inj e
      exact nomatch d
  apply codeAny_mono ((F _ inB (names hns) tabs).go callerA [] S H ⟨[.ref a], []⟩ [.ref a] [.ref a] _ _ rfl hr env (hbind S (.ref a)) (.cons rfl .nil) want)
  intro res s' hres
  match res, hres with
  | .error e, hres => exact (hCX H e s' hres).elim
  | .ok .next, hres => exact False.elim hres
  | .ok .brk, hres => exact False.elim hres
  | .ok .cont, hres => exact False.elim hres
  | .ok (.ret u), ⟨v, H2, h1, h2, un, ok2, rv, q⟩ =>
    obtain rfl : v = .bl true := q
    obtain rfl : u = Value.bool true := rv
    have same : ∀ b ob, b ∉ cs.map Prod.snd → S.heap.get? b = some ob → s'.heap.get? b = some ob := by
      intro b ob out e
      cases hb2 : H b with
      | none => exact un.keep b ob e hb2 (fun z => List.not_mem_nil z) (fun z => List.not_mem_nil z)
      | some u =>
        have tr := o.only b
        rw [hb2] at tr
        rcases tr with z | z | ⟨ob2, xs, z⟩
        · exact nomatch z
        · exact absurd z out
        · rw [z] at hb2
          have after := un.frzs b ob2 _ hb2
          have g1 := (o.ok b _ hb2).1
          have g2 := (ok2 b _ after).1
          rw [e] at g1
          cases g1
          exact g2
    have grew : ∀ p ∈ cs, ∃ more : Array Value, s'.heap.get? p.2 = some { cls := .none, data := .fields more } := by
      intro p hp
      obtain ⟨more, z⟩ := un.tbls p.2 #[] (o.tab p hp)
      exact ⟨_, ok2 p.2 _ z⟩
    refine ⟨rfl, ⟨?_, ?_⟩, h1, h2⟩
    · intro b ob e
      by_cases hb : b ∈ cs.map Prod.snd
      · obtain ⟨p, hp, rfl⟩ := List.mem_map.mp hb
        obtain ⟨more, hm⟩ := grew p hp
        rw [hT p hp] at e
        obtain rfl := Option.some.inj e
        exact .inr (.inl ⟨((C p hp).tab (hT p hp)).isCodeTable, rfl, #[], more, rfl, by rw [Array.empty_append]; exact hm⟩)
      · exact .inl (same b ob hb e)
    · intro b ob e
      by_cases hb : b ∈ cs.map Prod.snd
      · obtain ⟨p, hp, rfl⟩ := List.mem_map.mp hb
        obtain ⟨more, hm⟩ := grew p hp
        exact ⟨_, hm⟩
      · exact ⟨ob, same b ob hb e⟩
/-- the law's promise from a heap in which the script and the tables are told -/
def StartT (K : PySem.W.Frag) (cs : List (Addr × Addr)) (a : Addr) (ns : List Int) (H : Hp) : Prop :=
  (∀ p ∈ cs, H p.2 = some (.tbl #[])) ∧ (∀ b, H b = none ∨ b ∈ cs.map Prod.snd ∨ ∃ o xs, H b = some (.frz o (.lst xs))) ∧ a ∉ cs.map Prod.snd ∧ SqL K H a (ns.map V.int)
theorem lawTG_call (KX : K.In S.heap) (hns : S.heap.Ns mainGlobals mg) (hb : S.heap.Ns builtinsNs mb) (hbb : ∀ x : Str, x ≠ "__name__" → mb x = bootBuiltins x) (hlim : S.heap.NoLimit) (hg : S.gens = #[])
    (hT : ∀ p ∈ cs, S.heap.get? p.2 = some emptyO) (nT : ∀ p ∈ cs, K.lookup p.2 = none) (C : ∀ p ∈ cs, PySem.W.CodeHd S.heap p.1 p.2)
    (hbm : ∃ (bm : Addr) (ob : Obj), mg "__builtins__" = some (.ref bm) ∧ bm ≠ builtinsNs ∧ S.heap.get? bm = some ob ∧ ob.cls = .type "module" ∧ ob.dict = some builtinsNs ∧ ob.data = .plain)
    (ha : S.heap.get? a = some { cls := .type "list", data := .seq vs.toArray }) (hi : IntsAre vs ns) (hl : ns.length ≤ sizeLine) (hr : Room k callerA)
    (F : ∀ base : Heap, K.In base → base.Ns mainGlobals mg → (∀ p ∈ cs, TabB base mg p.1 p.2) → FnG P w K mg base CX k fa fd [x] sp) (hbind : ∀ (s : Shared) (u : Value), BindsTo s fd ⟨[u], []⟩ [(x, u)])
    (hsp : ∀ H : Hp, StartT K cs a ns H → sp [.ref a] H (fun v _ => v = .bl true) fun _ _ _ => False) (hCX : ∀ H e s', CX [] H S (fun _ _ _ => False) e s' → False) :
    codeAny (model P w) callerA (.call (.ref fa) ⟨[.ref a], []⟩) (Yes S) S := by
  have values := vals_ints hi
  have many := hi.length
  have out : a ∉ cs.map Prod.snd := fun z => by
    have e := tab_at hT z
    rw [ha] at e
    exact nomatch congrArg Obj.data (Option.some.inj e)
  by_cases hk : K.lookup a = none
  · let H : Hp := fun b => if b = a then some (.frz { cls := .type "list", data := .seq vs.toArray } (.lst (ns.map V.int))) else if b ∈ cs.map Prod.snd then some (.tbl #[]) else none
    have Ha : H a = some (.frz { cls := .type "list", data := .seq vs.toArray } (.lst (ns.map V.int))) := if_pos rfl
    have Ht : ∀ {b}, b ∈ cs.map Prod.snd → H b = some (.tbl #[]) := fun {b} z => (if_neg (show ¬ b = a from fun e => out (e ▸ z))).trans (if_pos z)
    have Hb : ∀ {b}, b ≠ a → b ∉ cs.map Prod.snd → H b = none := fun z1 z2 => (if_neg z1).trans (if_neg z2)
    have only : ∀ b, H b = none ∨ b ∈ cs.map Prod.snd ∨ ∃ o xs, H b = some (.frz o (.lst xs)) := by
      intro b
      by_cases e : b = a
      · subst e; exact .inr (.inr ⟨_, _, Ha⟩)
      · by_cases z : b ∈ cs.map Prod.snd
        · exact .inr (.inl z)
        · exact .inl (Hb e z)
    have tab : ∀ p ∈ cs, H p.2 = some (.tbl #[]) := fun p hp => Ht (List.mem_map.mpr ⟨p, hp, rfl⟩)
    refine lawTG_at KX hns hb hbb hlim hg hT nT C hbm ha hr F hbind (hsp H ⟨tab, only, out, .inl (.inr ⟨_, Ha⟩)⟩) hCX ⟨only, tab, ?_, ?_, fun _ => hk⟩
    · intro b u z
      by_cases e : b = a
      · subst e
        rw [Ha] at z
        cases z
        exact ⟨ha, by rw [List.length_map]; exact hl, vs, _, values, ha⟩
      · by_cases q : b ∈ cs.map Prod.snd
        · rw [Ht q] at z
          cases z
          exact tab_at hT q
        · rw [Hb e q] at z
          exact nomatch z
    · intro b z
      refine Classical.byContradiction fun e => z (Hb (fun q => e (.inl q)) fun q => e (.inr q))
  · obtain ⟨ob, hk⟩ := Option.ne_none_iff_exists'.mp hk
    have e := KX a ob hk
    rw [ha] at e
    cases e
    let H : Hp := fun b => if b ∈ cs.map Prod.snd then some (.tbl #[]) else none
    have Ht : ∀ {b}, b ∈ cs.map Prod.snd → H b = some (.tbl #[]) := fun z => if_pos z
    have Hb : ∀ {b}, b ∉ cs.map Prod.snd → H b = none := fun z => if_neg z
    have only : ∀ b, H b = none ∨ b ∈ cs.map Prod.snd ∨ ∃ o xs, H b = some (.frz o (.lst xs)) := fun b => by
      by_cases z : b ∈ cs.map Prod.snd
      · exact .inr (.inl z)
      · exact .inl (Hb z)
    have tab : ∀ p ∈ cs, H p.2 = some (.tbl #[]) := fun p hp => Ht (List.mem_map.mpr ⟨p, hp, rfl⟩)
    refine lawTG_at (H := H) KX hns hb hbb hlim hg hT nT C hbm ha hr F hbind (hsp H ⟨tab, only, out, .inr ⟨_, vs.toArray, _, hk, rfl, rfl, rfl, by rw [List.size_toArray, many]; exact hl, by simpa using values⟩⟩) hCX ⟨only, tab, ?_, ?_, fun z => absurd (Hb out) z⟩
    · intro b u z
      by_cases q : b ∈ cs.map Prod.snd
      · rw [Ht q] at z
        cases z
        exact tab_at hT q
      · rw [Hb q] at z
        exact nomatch z
    · intro b z
      exact .inr (Classical.byContradiction fun q => z (Hb q))
end
/-- what is known of such a law's promise at the head's heap -/
def LawAtG (l : PySem.W.OpenLaw) (w : World) (K : PySem.W.Frag) (CX : CXT) (k n : Nat) (x : Str) (mg : Str → Option Value) (fa : Addr) (h : Heap) : Prop :=
  ∃ (fd : FuncData) (cs : List (Addr × Addr)) (sp : Sp), (∀ p ∈ cs, h.get? p.2 = some emptyO) ∧ (∀ p ∈ cs, K.lookup p.2 = none) ∧ (∀ p ∈ cs, PySem.W.CodeHd h p.1 p.2) ∧ (∀ (s : Shared) (u : Value), BindsTo s fd ⟨[u], []⟩ [(x, u)]) ∧
    (∀ (H : Hp) (a : Addr) (ns : List Int), ns.length ≤ n → StartT K cs a ns H → sp [.ref a] H (fun v _ => v = .bl true) fun _ _ _ => False) ∧
    ∀ base : Heap, K.In base → base.Ns mainGlobals mg → (∀ p ∈ cs, TabB base mg p.1 p.2) → FnG l.prog w K mg base CX k fa fd [x] sp
theorem walk_ofTG {l : PySem.W.OpenLaw} {n k : Nat} {q : Program} {loose : List Str} {XP : (Str → Option Value) → Heap → Prop} {YP : World → Heap → Prop} {d : DefRec} {CX : World → CXT} {x : Str}
    (hn : l.most = some n) (hn2 : n ≤ sizeLine) (hdf : d.params.defaults = []) (hr : Room k callerA)
    (F : ∀ (w : World) (mg : Str → Option Value) (fa : Addr) (h : Heap), YP w h → h.Ns mainGlobals mg → mg d.name = some (.ref fa) → ∃ K : PySem.W.Frag, K.In h ∧ LawAtG l w K (CX w) k n x mg fa h)
    (hCX : ∀ (w : World) (H : Hp) (s : Shared) (e : Value) (s' : Shared), CX w [] H s (fun _ _ _ => False) e s' → False) : PySem.W.WalkO q loose XP YP l.row.toRowW d [] (fun f vs => PySem.call f vs) := by
  apply Att.attach_callB hn hdf
  intro w s₀ s₁ mg mb fa o pm cd doc a vs ns G Y ho hd hcd hmg hobj hints hlen hbits hg
  obtain ⟨K, KX, fd, cs, sp, hT, nT, C, bnd, want, Fn⟩ := F w mg fa _ Y G.T.g hmg
  exact lawTG_call KX G.T.g G.T.b G.T.builtins G.T.nolimit hg hT nT C G.T.bmain hobj hints (Nat.le_trans hlen hn2) hr Fn bnd (fun H z => want H a ns hlen z) fun H e s' => hCX w H s₁ e s'
end L2
namespace Tr
open PySem PySem.Spec PyProof.Rows L2
/-! ### facts of the head -/
def exB (n : Str) (K : PySem.W.Frag) : Bool := PySem.W.excIn K (He.ga K n) He.veBase "ValueError.__new__" && PySem.W.keepIn K (.ref (He.ga K n)) && (match PySem.W.subIn K (.ref (He.ga K n)) (.type "BaseException") with
  | some true => true
  | _ => false) && (match PySem.W.typeIn K (.ref (He.ga K n)) with
  | some (.type t) => decide (t = "type")
  | _ => false)
theorem exB_ok {n : Str} {K : PySem.W.Frag} (h : exB n K = true) : ExD K (He.ga K n) := by
  unfold exB at h
  rw [Bool.and_eq_true, Bool.and_eq_true, Bool.and_eq_true] at h
  obtain ⟨⟨⟨h1, h2⟩, h3⟩, h4⟩ := h
  refine ⟨h1, h2, ?_, ?_⟩
  · split at h3
    · assumption
    · cases h3
  · split at h4
    · rename_i e
      rw [e, of_decide_eq_true h4]
    · cases h4
/-- which classes of exceptions are told apart -/
def EmOk (cN : Str → Addr) (em : Value → Value → Option Bool) (N : List Str) : Prop := ∀ x ∈ N, ∀ y ∈ N, em (.ref (cN x)) (.ref (cN y)) = some (decide (x = y))
def emB (N : List Str) (K : PySem.W.Frag) : Bool := N.all fun x => N.all fun y => (match PySem.W.exmOne K (.ref (He.ga K x)) (.ref (He.ga K y)) with
  | some v => v == decide (x = y)
  | none => false)
theorem emB_ok {N : List Str} {K : PySem.W.Frag} (h : emB N K = true) : EmOk (He.ga K) (PySem.W.exmOne K) N := fun x hx y hy => by
  have z := List.all_eq_true.mp (List.all_eq_true.mp h x hx) y hy
  split at z
  · rename_i v e
    rw [e, eq_of_beq z]
  · cases z
theorem fst_uniq : ∀ {l : List (Addr × Str)}, (l.map Prod.fst).Nodup → ∀ p ∈ l, ∀ r ∈ l, p.1 = r.1 → p.2 = r.2
  | [], _, p, hp, _, _, _ => nomatch hp
  | q :: l, h, p, hp, r, hr, e => by
    rw [List.map_cons, List.nodup_cons] at h
    rcases List.mem_cons.mp hp with z1 | z1
    · rcases List.mem_cons.mp hr with z2 | z2
      · rw [z1, z2]
      · exact absurd (show q.1 ∈ l.map Prod.fst from List.mem_map.mpr ⟨r, z2, by rw [← e, z1]⟩) h.1
    · rcases List.mem_cons.mp hr with z2 | z2
      · exact absurd (show q.1 ∈ l.map Prod.fst from List.mem_map.mpr ⟨p, z1, by rw [e, z2]⟩) h.1
      · exact fst_uniq h.2 p z1 r z2 e
/-- the start of a law's body -/
theorem start_T [Tabl] {K : PySem.W.Frag} {cs : List (Addr × Addr)} {a : Addr} {ns : List Int} {H : Hp} {wf : WF} (hT : ∀ p ∈ Tabl.T, p.1 ∈ cs.map Prod.snd) (hC : ∀ p ∈ cs, ∃ q, (p.2, q) ∈ Tabl.T) (S : StartT K cs a ns H) (hw : wf [.val (.scr (ns.map T.int))] fun x => x = .val (.bl true)) :
    spT K wf [.ref a] H (fun v _ => v = .bl true) fun _ _ _ => False := by
  obtain ⟨h1, h2, h3, hS⟩ := S
  have tb : ∀ {d : Addr} {q : Str}, d ∈ cs.map Prod.snd → LamX.TabS H d q := fun {d q} hd => by
    obtain ⟨p, hp, rfl⟩ := List.mem_map.mp hd
    refine ⟨#[], h1 p hp, ?_, fun pos cv hc => ?_⟩
    · exact (show TriplesOk [] from by simp [TriplesOk])
    · exact (nomatch (show (none : Option Value) = some cv from hc))
  have ra : ∀ A, RepAll K A H (ns.map V.int) (ns.map T.int) := fun A => by
    clear hw hS
    induction ns with
    | nil => exact .nil
    | cons n r ih => exact .cons (.int n) ih
  have rep : Rep K (cs.map Prod.snd) H (.ref a) (.scr (ns.map T.int)) := by
    rcases hS with (h | ⟨o, h⟩) | h
    · rcases h2 a with z | z | ⟨o, xs, z⟩
      · rw [h] at z; cases z
      · exact absurd z h3
      · rw [h] at z; cases z
    · exact .scr h3 h (ra _)
    · exact .scrK h (ra _)
  refine ⟨cs.map Prod.snd, cs.map Prod.snd, [.val (.scr (ns.map T.int))], fun x => x = .val (.bl true), fun d hd => ?_, fun d hd => hd, ⟨fun d hd => ?_, fun p hp => ⟨hT p hp, tb (hT p hp)⟩⟩, .cons rep .nil, hw, fun v H' x _ hr hx => ?_⟩
  · obtain ⟨p, hp, rfl⟩ := List.mem_map.mp hd
    obtain ⟨q, hq⟩ := hC p hp
    exact .inr ⟨q, hq, tb hd⟩
  · obtain ⟨p, hp, rfl⟩ := List.mem_map.mp hd
    rw [h1 p hp]
    exact fun z => nomatch z
  · subst hx
    cases hr
    rfl
end Tr


set_option Elab.async false
set_option linter.all false
set_option maxRecDepth 100000
set_option maxHeartbeats 0
namespace Tr
open PySem PySem.Spec PyProof.Rows L2
variable [Tabl]
/-! ### 20. a reading is run -/
theorem wideL0 {i j : Int} (h : i.natAbs < 2 ^ 64) : wide i j = true := by
  unfold wide
  rw [Bool.or_eq_true, Bool.or_eq_true]
  exact .inl (.inl (decide_eq_true h))
theorem wideR0 {i j : Int} (h : j.natAbs < 2 ^ 64) : wide i j = true := by
  unfold wide
  rw [Bool.or_eq_true, Bool.or_eq_true]
  exact .inl (.inr (decide_eq_true h))
section
variable {sl : List Sl} {P : Sl → Prop} {Q : Bool → Prop} {f bk ct : List Sl → Prop} {rt : Sl → Prop} {a b c : WE} {s t u z : T} {i j l : Nat} {m n : Int} {x y : Sl} {ts us : List T} {A B : Prop}
def ifG (A B : Prop) (v : Bool) : Prop := if v = true then A else B
def stG (f : List Sl → Prop) (i : Nat) (x : Sl) (sl : List Sl) : Prop := f (sl.set i x)
def bG (Q : Bool → Prop) (x : Sl) : Prop := ∃ b, x = .val (.bl b) ∧ Q b
def notG (Q : Bool → Prop) (b : Bool) : Prop := Q (!b)
def truG (Q : Bool → Prop) (x : Sl) : Prop := ∃ t b, x.tree = some t ∧ truT t = some b ∧ Q b
def boG (A B : Prop) (x : Sl) : Prop := ∃ c, x = .val (.bl c) ∧ if c = true then A else B
def asgG (i : Nat) (f : List Sl → Prop) (sl : List Sl) (x : Sl) : Prop := storable x = true ∧ f (sl.set i x)
def ownG (i : Nat) (f : List Sl → Prop) (sl : List Sl) (ts : List T) : Prop := ∀ l, f (sl.set i (.own l ts))
def asgTG (is : List Nat) (f : List Sl → Prop) (sl : List Sl) (x : Sl) : Prop := ∃ t sl', x = .val t ∧ (Tg.names is).st t sl = some sl' ∧ f sl'
def parG (i j : Nat) (f : List Sl → Prop) (sl : List Sl) (xs : List Sl) : Prop := ∃ x y, xs = [x, y] ∧ storable x = true ∧ storable y = true ∧ f ((sl.set i x).set j y)
def par3G (i j l : Nat) (f : List Sl → Prop) (sl : List Sl) (xs : List Sl) : Prop := ∃ x y z, xs = [x, y, z] ∧ storable x = true ∧ storable y = true ∧ storable z = true ∧ f (((sl.set i x).set j y).set l z)
def augG (g : Int → Int → Int) (a : Int) (i : Nat) (f : List Sl → Prop) (sl : List Sl) (x : Sl) : Prop := ∃ b, x = .val (.int b) ∧ f (sl.set i (.val (.int (g a b))))
def appG (l : Addr) (ts : List T) (i : Nat) (f : List Sl → Prop) (sl : List Sl) (x : Sl) : Prop := ∃ t, x = .val t ∧ f (sl.set i (.own l (ts ++ [t])))
def extG (l : Addr) (ts : List T) (i : Nat) (f : List Sl → Prop) (sl : List Sl) (x : Sl) : Prop := ∃ us, x = .val (.lst us) ∧ ts.length + us.length ≤ 1000000 ∧ f (sl.set i (.own l (ts ++ us)))
def callG (wf : WF) (dts : List T) (P : Sl → Prop) (xs : List Sl) : Prop := xs.all isArg = true ∧ wf (xs ++ dts.map Sl.val) P
def metG (wf : WF) (dts : List T) (P : Sl → Prop) (x : Sl) (xs : List Sl) : Prop := xs.all isArg = true ∧ wf (x :: (xs ++ dts.map Sl.val)) P
def meG (C : Addr) (m : Str) (wf : WF) (dts : List T) (a : WA) (sl : List Sl) (P : Sl → Prop) (x : Sl) : Prop := ∃ ns ts, x = .val (.ins C ns ts) ∧ m ∉ ns ∧ a sl fun xs => xs.all isArg = true ∧ wf (x :: (xs ++ dts.map Sl.val)) P
def makG (C : Addr) (wf : WM) (dts : List T) (P : Sl → Prop) (xs : List Sl) : Prop := xs.all isArg = true ∧ wf (xs ++ dts.map Sl.val) fun ns ts => P (.val (.ins C ns ts))
def fldG (C : Addr) (f : Str) (P : Sl → Prop) (x : Sl) : Prop := ∃ ns ts t, x = .val (.ins C ns ts) ∧ (ns.zip ts).lookup f = some t ∧ P (.val t)
def isIG (C : Addr) (P : Sl → Prop) (x : Sl) : Prop := ∃ t b, x.tree = some t ∧ isI C t = some b ∧ P (.val (.bl b))
def blG (P : Sl → Prop) (z : Sl) : Prop := ∃ r, z = .val (.bl r) ∧ P z
def blnG (P : Sl → Prop) (z : Sl) : Prop := ∃ r, z = .val (.bl r) ∧ P (.val (.bl (!r)))
def eqG (C : Addr) (wf : WF) (P : Sl → Prop) (x y : Sl) : Prop := ∃ ns ts u, x = .val (.ins C ns ts) ∧ y = .val u ∧ tyOk C u ∧ wf [x, y] fun z => ∃ r, z = .val (.bl r) ∧ P z
def neG (C : Addr) (wf : WF) (P : Sl → Prop) (x y : Sl) : Prop := ∃ ns ts u, x = .val (.ins C ns ts) ∧ y = .val u ∧ tyOk C u ∧ wf [x, y] fun z => ∃ r, z = .val (.bl r) ∧ P (.val (.bl (!r)))
def opG (g : T → T → Option T) (P : Sl → Prop) (x y : Sl) : Prop := ∃ s t z, x.tree = some s ∧ y.tree = some t ∧ g s t = some z ∧ P (.val z)
def op2 (g : T → T → Option T) (P : Sl → Prop) (s t : T) : Prop := ∃ z, g s t = some z ∧ P (.val z)
def unG (g : T → Option T) (P : Sl → Prop) (x : Sl) : Prop := ∃ s z, x.tree = some s ∧ g s = some z ∧ P (.val z)
def ch2 (h : T → T → Option T) (P : Sl → Prop) (t : T) (z : Sl) : Prop := ∃ u r, z.tree = some u ∧ h t u = some r ∧ P (.val r)
def chG (g h : T → T → Option T) (c : WE) (sl : List Sl) (P : Sl → Prop) (x y : Sl) : Prop := ∃ s t k, x.tree = some s ∧ y.tree = some t ∧ g s t = some (.bl k) ∧ (if k = true then c sl fun z => ∃ u r, z.tree = some u ∧ h t u = some r ∧ P (.val r) else P (.val (.bl false)))
def isNG (neg : Bool) (P : Sl → Prop) (x : Sl) : Prop := ∃ b, isN x = some b ∧ P (.val (.bl (if neg then !b else b)))
def tupG (P : Sl → Prop) (xs : List Sl) : Prop := ∃ ts, trees xs = some ts ∧ ts.length ≤ 1000000 ∧ P (.val (.tup ts))
def lstG (P : List T → Prop) (xs : List Sl) : Prop := ∃ ts, trees xs = some ts ∧ ts.length ≤ 1000000 ∧ P ts
def lofG (P : List T → Prop) (xs : List Sl) : Prop := ∃ x t ts, xs = [x] ∧ x.tree = some t ∧ t.seq = some ts ∧ P ts
def slG (P : Sl → Prop) (x : Sl) (lo hi : Option Int) : Prop := ∃ s z, x.tree = some s ∧ slT s lo hi = some z ∧ P (.val z)
def osG (P : Option Int → Prop) (x : Sl) : Prop := ∃ i, x = .val (.int i) ∧ P (some i)
def cbG (g : List T → Option T) (P : Sl → Prop) (xs : List Sl) : Prop := ∃ ts z, treesR xs = some ts ∧ g ts = some z ∧ P (.val z)
def lcG (g : Tg) (wt : WT) (we : WE) (sl : List Sl) (P : List T → Prop) (ts : List T) : Prop := ts.length ≤ 100000 ∧ wColl g wt we sl P ts []
def seqG (P : List T → Prop) (x : Sl) : Prop := ∃ t ts, x = .val t ∧ t.seq = some ts ∧ P ts
def rg1G (P : List T → Prop) (xs : List Sl) : Prop := ∃ n : Int, xs = [.val (.int n)] ∧ -(2 ^ 62) ≤ n ∧ n < 2 ^ 62 ∧ P (upTo 0 n.toNat)
def rg2G (P : List T → Prop) (xs : List Sl) : Prop := ∃ m n : Int, xs = [.val (.int m), .val (.int n)] ∧ (-(2 ^ 62) ≤ m ∧ m < 2 ^ 62 ∧ -(2 ^ 62) ≤ n ∧ n < 2 ^ 62) ∧ P (upTo m (n - m).toNat)
def enG (P : List T → Prop) (xs : List Sl) : Prop := ∃ t ts, xs = [.val t] ∧ (t = .lst ts ∨ t = .tup ts) ∧ P (enT 0 ts)
def sw2 (P : Sl → Prop) (p : Str) (y : Sl) : Prop := ∃ u, y = .val (.str u) ∧ P (.val (.bl (Txt.startswith p u)))
def sw1 (b : WE) (sl : List Sl) (P : Sl → Prop) (x : Sl) : Prop := ∃ z, x = .val (.str z) ∧ b sl fun y => ∃ u, y = .val (.str u) ∧ P (.val (.bl (Txt.startswith z u)))
def wstG (P : List T → Prop) (x : Sl) : Prop := ∃ z, x = .val (.str z) ∧ P (sgnT z)
theorem x_seq {p q : WS} (h : p ⟨fun s => q ⟨f, rt, bk, ct⟩ s, rt, bk, ct⟩ sl) : wSeq p q ⟨f, rt, bk, ct⟩ sl := h
theorem x_next (h : f sl) : wNext ⟨f, rt, bk, ct⟩ sl := h
theorem x_asg (h : a sl fun x => asgG i f sl x) : wAsg a i ⟨f, rt, bk, ct⟩ sl := h
theorem x_asgv (h : stG f i (.val t) sl) : asgG i f sl (.val t) := ⟨rfl, h⟩
theorem x_asgd (h : stG f i .dice sl) : asgG i f sl .dice := ⟨rfl, h⟩
theorem x_st0 {y0 : Sl} (h : f (x :: sl)) : stG f 0 x (y0 :: sl) := h
theorem x_st1 {x0 : Sl} {y0 : Sl} (h : f (x0 :: x :: sl)) : stG f 1 x (x0 :: y0 :: sl) := h
theorem x_st2 {x0 x1 : Sl} {y0 : Sl} (h : f (x0 :: x1 :: x :: sl)) : stG f 2 x (x0 :: x1 :: y0 :: sl) := h
theorem x_st3 {x0 x1 x2 : Sl} {y0 : Sl} (h : f (x0 :: x1 :: x2 :: x :: sl)) : stG f 3 x (x0 :: x1 :: x2 :: y0 :: sl) := h
theorem x_st4 {x0 x1 x2 x3 : Sl} {y0 : Sl} (h : f (x0 :: x1 :: x2 :: x3 :: x :: sl)) : stG f 4 x (x0 :: x1 :: x2 :: x3 :: y0 :: sl) := h
theorem x_st5 {x0 x1 x2 x3 x4 : Sl} {y0 : Sl} (h : f (x0 :: x1 :: x2 :: x3 :: x4 :: x :: sl)) : stG f 5 x (x0 :: x1 :: x2 :: x3 :: x4 :: y0 :: sl) := h
theorem x_st6 {x0 x1 x2 x3 x4 x5 : Sl} {y0 : Sl} (h : f (x0 :: x1 :: x2 :: x3 :: x4 :: x5 :: x :: sl)) : stG f 6 x (x0 :: x1 :: x2 :: x3 :: x4 :: x5 :: y0 :: sl) := h
theorem x_st7 {x0 x1 x2 x3 x4 x5 x6 : Sl} {y0 : Sl} (h : f (x0 :: x1 :: x2 :: x3 :: x4 :: x5 :: x6 :: x :: sl)) : stG f 7 x (x0 :: x1 :: x2 :: x3 :: x4 :: x5 :: x6 :: y0 :: sl) := h
theorem x_st8 {x0 x1 x2 x3 x4 x5 x6 x7 : Sl} {y0 : Sl} (h : f (x0 :: x1 :: x2 :: x3 :: x4 :: x5 :: x6 :: x7 :: x :: sl)) : stG f 8 x (x0 :: x1 :: x2 :: x3 :: x4 :: x5 :: x6 :: x7 :: y0 :: sl) := h
theorem x_st9 {x0 x1 x2 x3 x4 x5 x6 x7 x8 : Sl} {y0 : Sl} (h : f (x0 :: x1 :: x2 :: x3 :: x4 :: x5 :: x6 :: x7 :: x8 :: x :: sl)) : stG f 9 x (x0 :: x1 :: x2 :: x3 :: x4 :: x5 :: x6 :: x7 :: x8 :: y0 :: sl) := h
theorem x_st10 {x0 x1 x2 x3 x4 x5 x6 x7 x8 x9 : Sl} {y0 : Sl} (h : f (x0 :: x1 :: x2 :: x3 :: x4 :: x5 :: x6 :: x7 :: x8 :: x9 :: x :: sl)) : stG f 10 x (x0 :: x1 :: x2 :: x3 :: x4 :: x5 :: x6 :: x7 :: x8 :: x9 :: y0 :: sl) := h
theorem x_st11 {x0 x1 x2 x3 x4 x5 x6 x7 x8 x9 x10 : Sl} {y0 : Sl} (h : f (x0 :: x1 :: x2 :: x3 :: x4 :: x5 :: x6 :: x7 :: x8 :: x9 :: x10 :: x :: sl)) : stG f 11 x (x0 :: x1 :: x2 :: x3 :: x4 :: x5 :: x6 :: x7 :: x8 :: x9 :: x10 :: y0 :: sl) := h
theorem x_st12 {x0 x1 x2 x3 x4 x5 x6 x7 x8 x9 x10 x11 : Sl} {y0 : Sl} (h : f (x0 :: x1 :: x2 :: x3 :: x4 :: x5 :: x6 :: x7 :: x8 :: x9 :: x10 :: x11 :: x :: sl)) : stG f 12 x (x0 :: x1 :: x2 :: x3 :: x4 :: x5 :: x6 :: x7 :: x8 :: x9 :: x10 :: x11 :: y0 :: sl) := h
theorem x_st13 {x0 x1 x2 x3 x4 x5 x6 x7 x8 x9 x10 x11 x12 : Sl} {y0 : Sl} (h : f (x0 :: x1 :: x2 :: x3 :: x4 :: x5 :: x6 :: x7 :: x8 :: x9 :: x10 :: x11 :: x12 :: x :: sl)) : stG f 13 x (x0 :: x1 :: x2 :: x3 :: x4 :: x5 :: x6 :: x7 :: x8 :: x9 :: x10 :: x11 :: x12 :: y0 :: sl) := h
theorem x_st14 {x0 x1 x2 x3 x4 x5 x6 x7 x8 x9 x10 x11 x12 x13 : Sl} {y0 : Sl} (h : f (x0 :: x1 :: x2 :: x3 :: x4 :: x5 :: x6 :: x7 :: x8 :: x9 :: x10 :: x11 :: x12 :: x13 :: x :: sl)) : stG f 14 x (x0 :: x1 :: x2 :: x3 :: x4 :: x5 :: x6 :: x7 :: x8 :: x9 :: x10 :: x11 :: x12 :: x13 :: y0 :: sl) := h
theorem x_st15 {x0 x1 x2 x3 x4 x5 x6 x7 x8 x9 x10 x11 x12 x13 x14 : Sl} {y0 : Sl} (h : f (x0 :: x1 :: x2 :: x3 :: x4 :: x5 :: x6 :: x7 :: x8 :: x9 :: x10 :: x11 :: x12 :: x13 :: x14 :: x :: sl)) : stG f 15 x (x0 :: x1 :: x2 :: x3 :: x4 :: x5 :: x6 :: x7 :: x8 :: x9 :: x10 :: x11 :: x12 :: x13 :: x14 :: y0 :: sl) := h
theorem x_st16 {x0 x1 x2 x3 x4 x5 x6 x7 x8 x9 x10 x11 x12 x13 x14 x15 : Sl} {y0 : Sl} (h : f (x0 :: x1 :: x2 :: x3 :: x4 :: x5 :: x6 :: x7 :: x8 :: x9 :: x10 :: x11 :: x12 :: x13 :: x14 :: x15 :: x :: sl)) : stG f 16 x (x0 :: x1 :: x2 :: x3 :: x4 :: x5 :: x6 :: x7 :: x8 :: x9 :: x10 :: x11 :: x12 :: x13 :: x14 :: x15 :: y0 :: sl) := h
theorem x_st17 {x0 x1 x2 x3 x4 x5 x6 x7 x8 x9 x10 x11 x12 x13 x14 x15 x16 : Sl} {y0 : Sl} (h : f (x0 :: x1 :: x2 :: x3 :: x4 :: x5 :: x6 :: x7 :: x8 :: x9 :: x10 :: x11 :: x12 :: x13 :: x14 :: x15 :: x16 :: x :: sl)) : stG f 17 x (x0 :: x1 :: x2 :: x3 :: x4 :: x5 :: x6 :: x7 :: x8 :: x9 :: x10 :: x11 :: x12 :: x13 :: x14 :: x15 :: x16 :: y0 :: sl) := h
theorem x_if {v : WT} {p q : WS} (h : v sl fun v => ifG (p ⟨f, rt, bk, ct⟩ sl) (q ⟨f, rt, bk, ct⟩ sl) v) : wIf v p q ⟨f, rt, bk, ct⟩ sl := h
theorem x_ift (h : A) : ifG A B true := h
theorem x_iff (h : B) : ifG A B false := by unfold ifG; rw [if_neg Bool.false_ne_true]; exact h
theorem x_ifE1 {α : Type} {q : α} {qs : List α} (h : B) : ifG A B (q :: qs).isEmpty := x_iff h
theorem x_ifE0 {α : Type} (h : A) : ifG A B ([] : List α).isEmpty := h
theorem x_ifn {v : Bool} (h : ifG B A v) : ifG A B (!v) := by cases v <;> exact h
theorem x_ifp {p : Prop} [Decidable p] (hp : p) (h : A) : ifG A B (decide p) := by unfold ifG; rw [decide_eq_true hp, if_pos rfl]; exact h
theorem x_ifq {p : Prop} [Decidable p] (hp : ¬p) (h : B) : ifG A B (decide p) := by unfold ifG; rw [decide_eq_false hp, if_neg Bool.false_ne_true]; exact h
theorem x_ifc {p : Prop} [Decidable p] (h1 : p → A) (h2 : ¬p → B) : ifG A B (decide p) := by by_cases hp : p; exact x_ifp hp (h1 hp); exact x_ifq hp (h2 hp)
theorem x_ifb {v : Bool} (h1 : v = true → A) (h2 : v = false → B) : ifG A B v := by cases v; exact x_iff (h2 rfl); exact h1 rfl
theorem x_ifv {v : Bool} {r : Bool} (e : v = r) (h : ifG A B r) : ifG A B v := by rw [e]; exact h
theorem x_ret (h : a sl rt) : wRet a ⟨f, rt, bk, ct⟩ sl := h
theorem x_retK (h : P (.val t)) : retK P (.val t) := h
theorem x_retO {l : Addr} (h : P (.val (.lst ts))) : retK P (.own l ts) := h
theorem x_retN (h : rt (.val .non)) : wRetN ⟨f, rt, bk, ct⟩ sl := h
theorem x_drop (h : a sl fun _ => f sl) : wDrop a ⟨f, rt, bk, ct⟩ sl := h
theorem x_brk (h : bk sl) : wBrk ⟨f, rt, bk, ct⟩ sl := h
theorem x_cnt (h : ct sl) : wCnt ⟨f, rt, bk, ct⟩ sl := h
theorem x_own {e : WL} (h : e sl fun ts => ownG i f sl ts) : wOwn e i ⟨f, rt, bk, ct⟩ sl := h
theorem x_ownl (h : ∀ l, stG f i (.own l ts) sl) : ownG i f sl ts := h
theorem x_asgT {is : List Nat} (h : a sl fun x => asgTG is f sl x) : wAsgT a is ⟨f, rt, bk, ct⟩ sl := h
theorem x_asgT2 (h : stG (fun r => stG f j (.val t) r) i (.val s) sl) : asgTG [i, j] f sl (.val (.tup [s, t])) := ⟨_, _, rfl, rfl, h⟩
theorem x_asgT3 (h : stG (fun r => stG (fun r => stG f l (.val u) r) j (.val t) r) i (.val s) sl) : asgTG [i, j, l] f sl (.val (.tup [s, t, u])) := ⟨_, _, rfl, rfl, h⟩
theorem x_asgT4 {q : Nat} (h : stG (fun r => stG (fun r => stG (fun r => stG f q (.val z) r) l (.val u) r) j (.val t) r) i (.val s) sl) : asgTG [i, j, l, q] f sl (.val (.tup [s, t, u, z])) := ⟨_, _, rfl, rfl, h⟩
theorem x_par {e : WA} (h : e sl fun xs => parG i j f sl xs) : wPar i j e ⟨f, rt, bk, ct⟩ sl := h
theorem x_parv (h : stG (fun r => stG f j (.val t) r) i (.val s) sl) : parG i j f sl [.val s, .val t] := ⟨_, _, rfl, rfl, rfl, h⟩
theorem x_par3 {e : WA} (h : e sl fun xs => par3G i j l f sl xs) : wPar3 i j l e ⟨f, rt, bk, ct⟩ sl := h
theorem x_par3v (h : stG (fun r => stG (fun r => stG f l (.val u) r) j (.val t) r) i (.val s) sl) : par3G i j l f sl [.val s, .val t, .val u] := ⟨_, _, _, rfl, rfl, rfl, rfl, h⟩
theorem x_aug {g : Int → Int → Int} (e : nth sl i = .val (.int m)) (h : a sl fun x => augG g m i f sl x) : wAug g i a ⟨f, rt, bk, ct⟩ sl := ⟨m, e, h⟩
theorem x_augv {g : Int → Int → Int} (h : stG f i (.val (.int (g m n))) sl) : augG g m i f sl (.val (.int n)) := ⟨n, rfl, h⟩
theorem x_app {l : Addr} (e : nth sl i = .own l ts) (hl : ts.length < 1000000) (h : a sl fun x => appG l ts i f sl x) : wApp i a ⟨f, rt, bk, ct⟩ sl := ⟨l, ts, e, hl, h⟩
theorem x_appv {l : Addr} (h : stG f i (.own l (ts ++ [t])) sl) : appG l ts i f sl (.val t) := ⟨t, rfl, h⟩
theorem x_ext {l : Addr} (e : nth sl i = .own l ts) (h : a sl fun x => extG l ts i f sl x) : wExt i a ⟨f, rt, bk, ct⟩ sl := ⟨l, ts, e, h⟩
theorem x_extv {l : Addr} (hl : ts.length + us.length ≤ 1000000) (h : stG f i (.own l (ts ++ us)) sl) : extG l ts i f sl (.val (.lst us)) := ⟨us, rfl, hl, h⟩
theorem x_frz {l : Addr} {p : WS} (e : nth sl i = .own l ts) (h : stG (fun r => p ⟨f, rt, bk, ct⟩ r) i (.val (.lst ts)) sl) : wFrz i p ⟨f, rt, bk, ct⟩ sl := ⟨l, ts, e, h⟩
theorem x_for {p : WS} {e : WI} {g : Tg} (h : e sl fun ts => wForL g p ⟨f, rt, bk, ct⟩ ts sl) : wFor e g p ⟨f, rt, bk, ct⟩ sl := h
theorem x_B (h : a sl fun x => bG Q x) : wB a sl Q := h
theorem x_Bv {v : Bool} (h : Q v) : bG Q (.val (.bl v)) := ⟨v, rfl, h⟩
theorem x_not {v : WT} (h : v sl fun b => notG Q b) : wNot v sl Q := h
theorem x_nott (h : Q false) : notG Q true := h
theorem x_notf (h : Q true) : notG Q false := h
theorem x_notv {v : Bool} (h : Q (!v)) : notG Q v := h
theorem x_and {v r : WT} (h : v sl fun b => ifG (r sl Q) (Q false) b) : wAnd v r sl Q := h
theorem x_or {v r : WT} (h : v sl fun b => ifG (Q true) (r sl Q) b) : wOr v r sl Q := h
theorem x_tru (h : a sl fun x => truG Q x) : wTru a sl Q := h
theorem x_trub {v : Bool} (h : Q v) : truG Q (.val (.bl v)) := ⟨_, v, rfl, rfl, h⟩
theorem x_trui (h : Q (m != 0)) : truG Q (.val (.int m)) := ⟨_, _, rfl, rfl, h⟩
theorem x_trun (h : Q false) : truG Q (.val .non) := ⟨_, _, rfl, rfl, h⟩
theorem x_trutup0 (h : Q false) : truG Q (.val (.tup [])) := ⟨_, _, rfl, rfl, h⟩
theorem x_trutup1 (h : Q true) : truG Q (.val (.tup (t :: ts))) := ⟨_, _, rfl, rfl, h⟩
theorem x_trutup (h : Q (!ts.isEmpty)) : truG Q (.val (.tup ts)) := ⟨_, _, rfl, rfl, h⟩
theorem x_trulst0 (h : Q false) : truG Q (.val (.lst [])) := ⟨_, _, rfl, rfl, h⟩
theorem x_trulst1 (h : Q true) : truG Q (.val (.lst (t :: ts))) := ⟨_, _, rfl, rfl, h⟩
theorem x_trulst (h : Q (!ts.isEmpty)) : truG Q (.val (.lst ts)) := ⟨_, _, rfl, rfl, h⟩
theorem x_truo {l : Addr} (h : Q (!ts.isEmpty)) : truG Q (.own l ts) := ⟨_, _, rfl, rfl, h⟩
theorem x_ifE {v : WT} (h : v sl fun k => ifG (a sl P) (b sl P) k) : wIfE v a b sl P := h
theorem x_andV (h : a sl fun x => boG (b sl P) (P (.val (.bl false))) x) : wAndV a b sl P := h
theorem x_orV (h : a sl fun x => boG (P (.val (.bl true))) (b sl P) x) : wOrV a b sl P := h
theorem x_bo {v : Bool} (h : ifG A B v) : boG A B (.val (.bl v)) := ⟨v, rfl, h⟩
theorem x_notV (h : a sl fun x => bG (fun c => P (.val (.bl (!c)))) x) : wNotV a sl P := h
theorem x_var (e : nth sl i = .val t) (h : P (.val t)) : wVar i sl P := by
  refine ⟨fun z => ?_, ?_⟩
  · rw [e] at z; cases z
  · rw [e]; exact h
theorem x_vard (e : nth sl i = .dice) (h : P .dice) : wVar i sl P := by
  refine ⟨fun z => ?_, ?_⟩
  · rw [e] at z; cases z
  · rw [e]; exact h
theorem x_varo {l : Addr} (e : nth sl i = .own l ts) (h : P (.own l ts)) : wVar i sl P := by
  refine ⟨fun z => ?_, ?_⟩
  · rw [e] at z; cases z
  · rw [e]; exact h
theorem x_v0 (h : P (.val t)) : wVar 0 (.val t :: sl) P := x_var rfl h
theorem x_d0 (h : P .dice) : wVar 0 (.dice :: sl) P := x_vard rfl h
theorem x_o0 {l : Addr} (h : P (.own l ts)) : wVar 0 (.own l ts :: sl) P := x_varo rfl h
theorem x_v1 {x0 : Sl} (h : P (.val t)) : wVar 1 (x0 :: .val t :: sl) P := x_var rfl h
theorem x_d1 {x0 : Sl} (h : P .dice) : wVar 1 (x0 :: .dice :: sl) P := x_vard rfl h
theorem x_o1 {x0 : Sl} {l : Addr} (h : P (.own l ts)) : wVar 1 (x0 :: .own l ts :: sl) P := x_varo rfl h
theorem x_v2 {x0 x1 : Sl} (h : P (.val t)) : wVar 2 (x0 :: x1 :: .val t :: sl) P := x_var rfl h
theorem x_d2 {x0 x1 : Sl} (h : P .dice) : wVar 2 (x0 :: x1 :: .dice :: sl) P := x_vard rfl h
theorem x_o2 {x0 x1 : Sl} {l : Addr} (h : P (.own l ts)) : wVar 2 (x0 :: x1 :: .own l ts :: sl) P := x_varo rfl h
theorem x_v3 {x0 x1 x2 : Sl} (h : P (.val t)) : wVar 3 (x0 :: x1 :: x2 :: .val t :: sl) P := x_var rfl h
theorem x_d3 {x0 x1 x2 : Sl} (h : P .dice) : wVar 3 (x0 :: x1 :: x2 :: .dice :: sl) P := x_vard rfl h
theorem x_o3 {x0 x1 x2 : Sl} {l : Addr} (h : P (.own l ts)) : wVar 3 (x0 :: x1 :: x2 :: .own l ts :: sl) P := x_varo rfl h
theorem x_v4 {x0 x1 x2 x3 : Sl} (h : P (.val t)) : wVar 4 (x0 :: x1 :: x2 :: x3 :: .val t :: sl) P := x_var rfl h
theorem x_d4 {x0 x1 x2 x3 : Sl} (h : P .dice) : wVar 4 (x0 :: x1 :: x2 :: x3 :: .dice :: sl) P := x_vard rfl h
theorem x_o4 {x0 x1 x2 x3 : Sl} {l : Addr} (h : P (.own l ts)) : wVar 4 (x0 :: x1 :: x2 :: x3 :: .own l ts :: sl) P := x_varo rfl h
theorem x_v5 {x0 x1 x2 x3 x4 : Sl} (h : P (.val t)) : wVar 5 (x0 :: x1 :: x2 :: x3 :: x4 :: .val t :: sl) P := x_var rfl h
theorem x_d5 {x0 x1 x2 x3 x4 : Sl} (h : P .dice) : wVar 5 (x0 :: x1 :: x2 :: x3 :: x4 :: .dice :: sl) P := x_vard rfl h
theorem x_o5 {x0 x1 x2 x3 x4 : Sl} {l : Addr} (h : P (.own l ts)) : wVar 5 (x0 :: x1 :: x2 :: x3 :: x4 :: .own l ts :: sl) P := x_varo rfl h
theorem x_v6 {x0 x1 x2 x3 x4 x5 : Sl} (h : P (.val t)) : wVar 6 (x0 :: x1 :: x2 :: x3 :: x4 :: x5 :: .val t :: sl) P := x_var rfl h
theorem x_d6 {x0 x1 x2 x3 x4 x5 : Sl} (h : P .dice) : wVar 6 (x0 :: x1 :: x2 :: x3 :: x4 :: x5 :: .dice :: sl) P := x_vard rfl h
theorem x_o6 {x0 x1 x2 x3 x4 x5 : Sl} {l : Addr} (h : P (.own l ts)) : wVar 6 (x0 :: x1 :: x2 :: x3 :: x4 :: x5 :: .own l ts :: sl) P := x_varo rfl h
theorem x_v7 {x0 x1 x2 x3 x4 x5 x6 : Sl} (h : P (.val t)) : wVar 7 (x0 :: x1 :: x2 :: x3 :: x4 :: x5 :: x6 :: .val t :: sl) P := x_var rfl h
theorem x_d7 {x0 x1 x2 x3 x4 x5 x6 : Sl} (h : P .dice) : wVar 7 (x0 :: x1 :: x2 :: x3 :: x4 :: x5 :: x6 :: .dice :: sl) P := x_vard rfl h
theorem x_o7 {x0 x1 x2 x3 x4 x5 x6 : Sl} {l : Addr} (h : P (.own l ts)) : wVar 7 (x0 :: x1 :: x2 :: x3 :: x4 :: x5 :: x6 :: .own l ts :: sl) P := x_varo rfl h
theorem x_v8 {x0 x1 x2 x3 x4 x5 x6 x7 : Sl} (h : P (.val t)) : wVar 8 (x0 :: x1 :: x2 :: x3 :: x4 :: x5 :: x6 :: x7 :: .val t :: sl) P := x_var rfl h
theorem x_d8 {x0 x1 x2 x3 x4 x5 x6 x7 : Sl} (h : P .dice) : wVar 8 (x0 :: x1 :: x2 :: x3 :: x4 :: x5 :: x6 :: x7 :: .dice :: sl) P := x_vard rfl h
theorem x_o8 {x0 x1 x2 x3 x4 x5 x6 x7 : Sl} {l : Addr} (h : P (.own l ts)) : wVar 8 (x0 :: x1 :: x2 :: x3 :: x4 :: x5 :: x6 :: x7 :: .own l ts :: sl) P := x_varo rfl h
theorem x_v9 {x0 x1 x2 x3 x4 x5 x6 x7 x8 : Sl} (h : P (.val t)) : wVar 9 (x0 :: x1 :: x2 :: x3 :: x4 :: x5 :: x6 :: x7 :: x8 :: .val t :: sl) P := x_var rfl h
theorem x_d9 {x0 x1 x2 x3 x4 x5 x6 x7 x8 : Sl} (h : P .dice) : wVar 9 (x0 :: x1 :: x2 :: x3 :: x4 :: x5 :: x6 :: x7 :: x8 :: .dice :: sl) P := x_vard rfl h
theorem x_o9 {x0 x1 x2 x3 x4 x5 x6 x7 x8 : Sl} {l : Addr} (h : P (.own l ts)) : wVar 9 (x0 :: x1 :: x2 :: x3 :: x4 :: x5 :: x6 :: x7 :: x8 :: .own l ts :: sl) P := x_varo rfl h
theorem x_v10 {x0 x1 x2 x3 x4 x5 x6 x7 x8 x9 : Sl} (h : P (.val t)) : wVar 10 (x0 :: x1 :: x2 :: x3 :: x4 :: x5 :: x6 :: x7 :: x8 :: x9 :: .val t :: sl) P := x_var rfl h
theorem x_d10 {x0 x1 x2 x3 x4 x5 x6 x7 x8 x9 : Sl} (h : P .dice) : wVar 10 (x0 :: x1 :: x2 :: x3 :: x4 :: x5 :: x6 :: x7 :: x8 :: x9 :: .dice :: sl) P := x_vard rfl h
theorem x_o10 {x0 x1 x2 x3 x4 x5 x6 x7 x8 x9 : Sl} {l : Addr} (h : P (.own l ts)) : wVar 10 (x0 :: x1 :: x2 :: x3 :: x4 :: x5 :: x6 :: x7 :: x8 :: x9 :: .own l ts :: sl) P := x_varo rfl h
theorem x_v11 {x0 x1 x2 x3 x4 x5 x6 x7 x8 x9 x10 : Sl} (h : P (.val t)) : wVar 11 (x0 :: x1 :: x2 :: x3 :: x4 :: x5 :: x6 :: x7 :: x8 :: x9 :: x10 :: .val t :: sl) P := x_var rfl h
theorem x_d11 {x0 x1 x2 x3 x4 x5 x6 x7 x8 x9 x10 : Sl} (h : P .dice) : wVar 11 (x0 :: x1 :: x2 :: x3 :: x4 :: x5 :: x6 :: x7 :: x8 :: x9 :: x10 :: .dice :: sl) P := x_vard rfl h
theorem x_o11 {x0 x1 x2 x3 x4 x5 x6 x7 x8 x9 x10 : Sl} {l : Addr} (h : P (.own l ts)) : wVar 11 (x0 :: x1 :: x2 :: x3 :: x4 :: x5 :: x6 :: x7 :: x8 :: x9 :: x10 :: .own l ts :: sl) P := x_varo rfl h
theorem x_v12 {x0 x1 x2 x3 x4 x5 x6 x7 x8 x9 x10 x11 : Sl} (h : P (.val t)) : wVar 12 (x0 :: x1 :: x2 :: x3 :: x4 :: x5 :: x6 :: x7 :: x8 :: x9 :: x10 :: x11 :: .val t :: sl) P := x_var rfl h
theorem x_d12 {x0 x1 x2 x3 x4 x5 x6 x7 x8 x9 x10 x11 : Sl} (h : P .dice) : wVar 12 (x0 :: x1 :: x2 :: x3 :: x4 :: x5 :: x6 :: x7 :: x8 :: x9 :: x10 :: x11 :: .dice :: sl) P := x_vard rfl h
theorem x_o12 {x0 x1 x2 x3 x4 x5 x6 x7 x8 x9 x10 x11 : Sl} {l : Addr} (h : P (.own l ts)) : wVar 12 (x0 :: x1 :: x2 :: x3 :: x4 :: x5 :: x6 :: x7 :: x8 :: x9 :: x10 :: x11 :: .own l ts :: sl) P := x_varo rfl h
theorem x_v13 {x0 x1 x2 x3 x4 x5 x6 x7 x8 x9 x10 x11 x12 : Sl} (h : P (.val t)) : wVar 13 (x0 :: x1 :: x2 :: x3 :: x4 :: x5 :: x6 :: x7 :: x8 :: x9 :: x10 :: x11 :: x12 :: .val t :: sl) P := x_var rfl h
theorem x_d13 {x0 x1 x2 x3 x4 x5 x6 x7 x8 x9 x10 x11 x12 : Sl} (h : P .dice) : wVar 13 (x0 :: x1 :: x2 :: x3 :: x4 :: x5 :: x6 :: x7 :: x8 :: x9 :: x10 :: x11 :: x12 :: .dice :: sl) P := x_vard rfl h
theorem x_o13 {x0 x1 x2 x3 x4 x5 x6 x7 x8 x9 x10 x11 x12 : Sl} {l : Addr} (h : P (.own l ts)) : wVar 13 (x0 :: x1 :: x2 :: x3 :: x4 :: x5 :: x6 :: x7 :: x8 :: x9 :: x10 :: x11 :: x12 :: .own l ts :: sl) P := x_varo rfl h
theorem x_v14 {x0 x1 x2 x3 x4 x5 x6 x7 x8 x9 x10 x11 x12 x13 : Sl} (h : P (.val t)) : wVar 14 (x0 :: x1 :: x2 :: x3 :: x4 :: x5 :: x6 :: x7 :: x8 :: x9 :: x10 :: x11 :: x12 :: x13 :: .val t :: sl) P := x_var rfl h
theorem x_d14 {x0 x1 x2 x3 x4 x5 x6 x7 x8 x9 x10 x11 x12 x13 : Sl} (h : P .dice) : wVar 14 (x0 :: x1 :: x2 :: x3 :: x4 :: x5 :: x6 :: x7 :: x8 :: x9 :: x10 :: x11 :: x12 :: x13 :: .dice :: sl) P := x_vard rfl h
theorem x_o14 {x0 x1 x2 x3 x4 x5 x6 x7 x8 x9 x10 x11 x12 x13 : Sl} {l : Addr} (h : P (.own l ts)) : wVar 14 (x0 :: x1 :: x2 :: x3 :: x4 :: x5 :: x6 :: x7 :: x8 :: x9 :: x10 :: x11 :: x12 :: x13 :: .own l ts :: sl) P := x_varo rfl h
theorem x_v15 {x0 x1 x2 x3 x4 x5 x6 x7 x8 x9 x10 x11 x12 x13 x14 : Sl} (h : P (.val t)) : wVar 15 (x0 :: x1 :: x2 :: x3 :: x4 :: x5 :: x6 :: x7 :: x8 :: x9 :: x10 :: x11 :: x12 :: x13 :: x14 :: .val t :: sl) P := x_var rfl h
theorem x_d15 {x0 x1 x2 x3 x4 x5 x6 x7 x8 x9 x10 x11 x12 x13 x14 : Sl} (h : P .dice) : wVar 15 (x0 :: x1 :: x2 :: x3 :: x4 :: x5 :: x6 :: x7 :: x8 :: x9 :: x10 :: x11 :: x12 :: x13 :: x14 :: .dice :: sl) P := x_vard rfl h
theorem x_o15 {x0 x1 x2 x3 x4 x5 x6 x7 x8 x9 x10 x11 x12 x13 x14 : Sl} {l : Addr} (h : P (.own l ts)) : wVar 15 (x0 :: x1 :: x2 :: x3 :: x4 :: x5 :: x6 :: x7 :: x8 :: x9 :: x10 :: x11 :: x12 :: x13 :: x14 :: .own l ts :: sl) P := x_varo rfl h
theorem x_v16 {x0 x1 x2 x3 x4 x5 x6 x7 x8 x9 x10 x11 x12 x13 x14 x15 : Sl} (h : P (.val t)) : wVar 16 (x0 :: x1 :: x2 :: x3 :: x4 :: x5 :: x6 :: x7 :: x8 :: x9 :: x10 :: x11 :: x12 :: x13 :: x14 :: x15 :: .val t :: sl) P := x_var rfl h
theorem x_d16 {x0 x1 x2 x3 x4 x5 x6 x7 x8 x9 x10 x11 x12 x13 x14 x15 : Sl} (h : P .dice) : wVar 16 (x0 :: x1 :: x2 :: x3 :: x4 :: x5 :: x6 :: x7 :: x8 :: x9 :: x10 :: x11 :: x12 :: x13 :: x14 :: x15 :: .dice :: sl) P := x_vard rfl h
theorem x_o16 {x0 x1 x2 x3 x4 x5 x6 x7 x8 x9 x10 x11 x12 x13 x14 x15 : Sl} {l : Addr} (h : P (.own l ts)) : wVar 16 (x0 :: x1 :: x2 :: x3 :: x4 :: x5 :: x6 :: x7 :: x8 :: x9 :: x10 :: x11 :: x12 :: x13 :: x14 :: x15 :: .own l ts :: sl) P := x_varo rfl h
theorem x_v17 {x0 x1 x2 x3 x4 x5 x6 x7 x8 x9 x10 x11 x12 x13 x14 x15 x16 : Sl} (h : P (.val t)) : wVar 17 (x0 :: x1 :: x2 :: x3 :: x4 :: x5 :: x6 :: x7 :: x8 :: x9 :: x10 :: x11 :: x12 :: x13 :: x14 :: x15 :: x16 :: .val t :: sl) P := x_var rfl h
theorem x_d17 {x0 x1 x2 x3 x4 x5 x6 x7 x8 x9 x10 x11 x12 x13 x14 x15 x16 : Sl} (h : P .dice) : wVar 17 (x0 :: x1 :: x2 :: x3 :: x4 :: x5 :: x6 :: x7 :: x8 :: x9 :: x10 :: x11 :: x12 :: x13 :: x14 :: x15 :: x16 :: .dice :: sl) P := x_vard rfl h
theorem x_o17 {x0 x1 x2 x3 x4 x5 x6 x7 x8 x9 x10 x11 x12 x13 x14 x15 x16 : Sl} {l : Addr} (h : P (.own l ts)) : wVar 17 (x0 :: x1 :: x2 :: x3 :: x4 :: x5 :: x6 :: x7 :: x8 :: x9 :: x10 :: x11 :: x12 :: x13 :: x14 :: x15 :: x16 :: .own l ts :: sl) P := x_varo rfl h
theorem x_C (h : P (.val t)) : wC t sl P := h
theorem x_dct (h : P (.val (.dct [] []))) : wDct0 sl P := h
theorem x_op {g : T → T → Option T} (h : a sl fun x => b sl fun y => opG g P x y) : wOp g a b sl P := h
theorem x_opvv {g : T → T → Option T} (h : op2 g P s t) : opG g P (.val s) (.val t) := let ⟨z, e, q⟩ := h; ⟨s, t, z, rfl, rfl, e, q⟩
theorem x_opov {l : Addr} {g : T → T → Option T} (h : op2 g P (.lst ts) t) : opG g P (.own l ts) (.val t) := let ⟨z, e, q⟩ := h; ⟨_, t, z, rfl, rfl, e, q⟩
theorem x_opvo {l : Addr} {g : T → T → Option T} (h : op2 g P s (.lst ts)) : opG g P (.val s) (.own l ts) := let ⟨z, e, q⟩ := h; ⟨s, _, z, rfl, rfl, e, q⟩
theorem x_opoo {k l : Addr} {g : T → T → Option T} (h : op2 g P (.lst ts) (.lst us)) : opG g P (.own k ts) (.own l us) := let ⟨z, e, q⟩ := h; ⟨_, _, z, rfl, rfl, e, q⟩
theorem x_op2 {g : T → T → Option T} (e : g s t = some z) (h : P (.val z)) : op2 g P s t := ⟨z, e, h⟩
theorem x_eq (h : P (.val (.bl (decide (m = n))))) : op2 eqT P (.int m) (.int n) := ⟨_, rfl, h⟩
theorem x_ne (h : P (.val (.bl (!decide (m = n))))) : op2 neT P (.int m) (.int n) := ⟨_, rfl, h⟩
theorem x_lt (h : P (.val (.bl (decide (m < n))))) : op2 ltT P (.int m) (.int n) := ⟨_, rfl, h⟩
theorem x_le (h : P (.val (.bl (decide (m ≤ n))))) : op2 leT P (.int m) (.int n) := ⟨_, rfl, h⟩
theorem x_gt (h : P (.val (.bl (decide (n < m))))) : op2 gtT P (.int m) (.int n) := ⟨_, rfl, h⟩
theorem x_ge (h : P (.val (.bl (decide (n ≤ m))))) : op2 geT P (.int m) (.int n) := ⟨_, rfl, h⟩
theorem x_add (h : P (.val (.int (m + n)))) : op2 addT P (.int m) (.int n) := ⟨_, rfl, h⟩
theorem x_sub (h : P (.val (.int (m - n)))) : op2 subT P (.int m) (.int n) := ⟨_, rfl, h⟩
def okV (v : Bool) : Option T → Bool
  | some (.bl b) => b == v
  | _ => false
theorem okV_of {v : Bool} {o : Option T} (h : okV v o = true) : o = some (.bl v) := by
  unfold okV at h
  split at h
  · rw [eq_of_beq h]
  · cases h
theorem x_keqTt (e : okV true (eqT s t) = true) (h : P (.val (.bl true))) : op2 eqT P s t := ⟨_, okV_of e, h⟩
theorem x_keqTf (e : okV false (eqT s t) = true) (h : P (.val (.bl false))) : op2 eqT P s t := ⟨_, okV_of e, h⟩
theorem x_kneTt (e : okV true (neT s t) = true) (h : P (.val (.bl true))) : op2 neT P s t := ⟨_, okV_of e, h⟩
theorem x_kneTf (e : okV false (neT s t) = true) (h : P (.val (.bl false))) : op2 neT P s t := ⟨_, okV_of e, h⟩
theorem x_mul (e : wide m n = true) (h : P (.val (.int (m * n)))) : op2 mulT P (.int m) (.int n) := ⟨_, by rw [mulT_int, if_pos e], h⟩
theorem x_mod (e : 0 < n) (h : P (.val (.int (m % n)))) : op2 modT P (.int m) (.int n) := ⟨_, by rw [modT_int, if_pos (decide_eq_true e)], h⟩
theorem divOk_s (h0 : 0 < n) (h : n < 2 ^ 64) : divOk n = true := by
  unfold divOk
  rw [Bool.and_eq_true]
  exact ⟨decide_eq_true h0, decide_eq_true (Nat.lt_of_lt_of_le (PySem.Flt.log2_lt_of (k := 64) (by decide) (by omega)) (by decide))⟩
theorem x_div (e : divOk n = true) (h : P (.val (.int (m / n)))) : op2 divT P (.int m) (.int n) := ⟨_, by rw [divT_int, if_pos e], h⟩
theorem x_addt (e : ts.length + us.length ≤ 1000000) (h : P (.val (.tup (ts ++ us)))) : op2 addT P (.tup ts) (.tup us) := ⟨_, addT_tup.trans (if_pos (decide_eq_true e)), h⟩
theorem x_addl (e : ts.length + us.length ≤ 1000000) (h : P (.val (.lst (ts ++ us)))) : op2 addT P (.lst ts) (.lst us) := ⟨_, addT_lst.trans (if_pos (decide_eq_true e)), h⟩
theorem x_adds {p q : Str} (e : p.length + q.length ≤ 1000000) (h : P (.val (.str (p ++ q)))) : op2 addT P (.str p) (.str q) := ⟨_, if_pos (decide_eq_true e), h⟩
theorem x_ixtup0 (h : P (.val t)) : op2 ixT P (.tup (t :: ts)) (.int 0) := ⟨_, atI_ok (by decide) rfl, h⟩
theorem x_ixtup1 {t0 : T} (h : P (.val t)) : op2 ixT P (.tup (t0 :: t :: ts)) (.int 1) := ⟨_, atI_ok (by decide) rfl, h⟩
theorem x_ixtup2 {t0 t1 : T} (h : P (.val t)) : op2 ixT P (.tup (t0 :: t1 :: t :: ts)) (.int 2) := ⟨_, atI_ok (by decide) rfl, h⟩
theorem x_ixtup3 {t0 t1 t2 : T} (h : P (.val t)) : op2 ixT P (.tup (t0 :: t1 :: t2 :: t :: ts)) (.int 3) := ⟨_, atI_ok (by decide) rfl, h⟩
theorem x_ixtup4 {t0 t1 t2 t3 : T} (h : P (.val t)) : op2 ixT P (.tup (t0 :: t1 :: t2 :: t3 :: t :: ts)) (.int 4) := ⟨_, atI_ok (by decide) rfl, h⟩
theorem x_ixtup5 {t0 t1 t2 t3 t4 : T} (h : P (.val t)) : op2 ixT P (.tup (t0 :: t1 :: t2 :: t3 :: t4 :: t :: ts)) (.int 5) := ⟨_, atI_ok (by decide) rfl, h⟩
theorem x_ixtup6 {t0 t1 t2 t3 t4 t5 : T} (h : P (.val t)) : op2 ixT P (.tup (t0 :: t1 :: t2 :: t3 :: t4 :: t5 :: t :: ts)) (.int 6) := ⟨_, atI_ok (by decide) rfl, h⟩
theorem x_ixtup7 {t0 t1 t2 t3 t4 t5 t6 : T} (h : P (.val t)) : op2 ixT P (.tup (t0 :: t1 :: t2 :: t3 :: t4 :: t5 :: t6 :: t :: ts)) (.int 7) := ⟨_, atI_ok (by decide) rfl, h⟩
theorem x_ixlst0 (h : P (.val t)) : op2 ixT P (.lst (t :: ts)) (.int 0) := ⟨_, atI_ok (by decide) rfl, h⟩
theorem x_ixlst1 {t0 : T} (h : P (.val t)) : op2 ixT P (.lst (t0 :: t :: ts)) (.int 1) := ⟨_, atI_ok (by decide) rfl, h⟩
theorem x_ixlst2 {t0 t1 : T} (h : P (.val t)) : op2 ixT P (.lst (t0 :: t1 :: t :: ts)) (.int 2) := ⟨_, atI_ok (by decide) rfl, h⟩
theorem x_ixlst3 {t0 t1 t2 : T} (h : P (.val t)) : op2 ixT P (.lst (t0 :: t1 :: t2 :: t :: ts)) (.int 3) := ⟨_, atI_ok (by decide) rfl, h⟩
theorem x_ixlst4 {t0 t1 t2 t3 : T} (h : P (.val t)) : op2 ixT P (.lst (t0 :: t1 :: t2 :: t3 :: t :: ts)) (.int 4) := ⟨_, atI_ok (by decide) rfl, h⟩
theorem x_ixlst5 {t0 t1 t2 t3 t4 : T} (h : P (.val t)) : op2 ixT P (.lst (t0 :: t1 :: t2 :: t3 :: t4 :: t :: ts)) (.int 5) := ⟨_, atI_ok (by decide) rfl, h⟩
theorem x_ixlst6 {t0 t1 t2 t3 t4 t5 : T} (h : P (.val t)) : op2 ixT P (.lst (t0 :: t1 :: t2 :: t3 :: t4 :: t5 :: t :: ts)) (.int 6) := ⟨_, atI_ok (by decide) rfl, h⟩
theorem x_ixlst7 {t0 t1 t2 t3 t4 t5 t6 : T} (h : P (.val t)) : op2 ixT P (.lst (t0 :: t1 :: t2 :: t3 :: t4 :: t5 :: t6 :: t :: ts)) (.int 7) := ⟨_, atI_ok (by decide) rfl, h⟩
theorem x_un {g : T → Option T} (h : a sl fun x => unG g P x) : wUn g a sl P := h
theorem x_neg (h : P (.val (.int (-m)))) : unG negT P (.val (.int m)) := ⟨_, _, rfl, rfl, h⟩
theorem x_ch2 {g : T → T → Option T} (h : op2 g P s t) : ch2 g P s (.val t) := let ⟨z, e, q⟩ := h; ⟨t, z, rfl, e, q⟩
theorem x_ch {g h : T → T → Option T} (q : a sl fun x => b sl fun y => chG g h c sl P x y) : wChain g h a b c sl P := q
theorem x_cheq {g : T → T → Option T} (q : ifG (c sl fun z => ch2 g P (.int n) z) (P (.val (.bl false))) (decide (m = n))) : chG eqT g c sl P (.val (.int m)) (.val (.int n)) := ⟨_, _, _, rfl, rfl, rfl, q⟩
theorem x_chlt {g : T → T → Option T} (q : ifG (c sl fun z => ch2 g P (.int n) z) (P (.val (.bl false))) (decide (m < n))) : chG ltT g c sl P (.val (.int m)) (.val (.int n)) := ⟨_, _, _, rfl, rfl, rfl, q⟩
theorem x_chle {g : T → T → Option T} (q : ifG (c sl fun z => ch2 g P (.int n) z) (P (.val (.bl false))) (decide (m ≤ n))) : chG leT g c sl P (.val (.int m)) (.val (.int n)) := ⟨_, _, _, rfl, rfl, rfl, q⟩
theorem x_chgt {g : T → T → Option T} (q : ifG (c sl fun z => ch2 g P (.int n) z) (P (.val (.bl false))) (decide (n < m))) : chG gtT g c sl P (.val (.int m)) (.val (.int n)) := ⟨_, _, _, rfl, rfl, rfl, q⟩
theorem x_chge {g : T → T → Option T} (q : ifG (c sl fun z => ch2 g P (.int n) z) (P (.val (.bl false))) (decide (n ≤ m))) : chG geT g c sl P (.val (.int m)) (.val (.int n)) := ⟨_, _, _, rfl, rfl, rfl, q⟩
theorem x_isN {neg : Bool} (h : a sl fun x => isNG neg P x) : wIsN neg a sl P := h
theorem x_isN0n (h : P (.val (.bl true))) : isNG false P (.val .non) := ⟨_, rfl, h⟩
theorem x_isN1n (h : P (.val (.bl false))) : isNG true P (.val .non) := ⟨_, rfl, h⟩
theorem x_isN0b {v : Bool} (h : P (.val (.bl false))) : isNG false P (.val (.bl v)) := ⟨_, rfl, h⟩
theorem x_isN1b {v : Bool} (h : P (.val (.bl true))) : isNG true P (.val (.bl v)) := ⟨_, rfl, h⟩
theorem x_isN0i (h : P (.val (.bl false))) : isNG false P (.val (.int m)) := ⟨_, rfl, h⟩
theorem x_isN1i (h : P (.val (.bl true))) : isNG true P (.val (.int m)) := ⟨_, rfl, h⟩
theorem x_isN0s {p : Str} (h : P (.val (.bl false))) : isNG false P (.val (.str p)) := ⟨_, rfl, h⟩
theorem x_isN1s {p : Str} (h : P (.val (.bl true))) : isNG true P (.val (.str p)) := ⟨_, rfl, h⟩
theorem x_isN0t (h : P (.val (.bl false))) : isNG false P (.val (.tup ts)) := ⟨_, rfl, h⟩
theorem x_isN1t (h : P (.val (.bl true))) : isNG true P (.val (.tup ts)) := ⟨_, rfl, h⟩
theorem x_isN0l (h : P (.val (.bl false))) : isNG false P (.val (.lst ts)) := ⟨_, rfl, h⟩
theorem x_isN1l (h : P (.val (.bl true))) : isNG true P (.val (.lst ts)) := ⟨_, rfl, h⟩
theorem x_isN0d {ks : List Key} (h : P (.val (.bl false))) : isNG false P (.val (.dct ks ts)) := ⟨_, rfl, h⟩
theorem x_isN1d {ks : List Key} (h : P (.val (.bl true))) : isNG true P (.val (.dct ks ts)) := ⟨_, rfl, h⟩
theorem x_isN0I {C : Addr} {ns : List Str} (h : P (.val (.bl false))) : isNG false P (.val (.ins C ns ts)) := ⟨_, rfl, h⟩
theorem x_isN1I {C : Addr} {ns : List Str} (h : P (.val (.bl true))) : isNG true P (.val (.ins C ns ts)) := ⟨_, rfl, h⟩
theorem x_nil {q : List Sl → Prop} (h : q []) : waNil sl q := h
theorem x_cons {r : WA} {q : List Sl → Prop} (h : a sl fun x => r sl fun xs => q (x :: xs)) : waCons a r sl q := h
theorem x_tup {e : WA} (h : e sl fun xs => tupG P xs) : wTup e sl P := h
theorem x_Lst {e : WA} {q : List T → Prop} (h : e sl fun xs => lstG q xs) : wLst e sl q := h
theorem x_tup0 (h : P (.val (.tup []))) : tupG P [] := ⟨[], rfl, (show 0 ≤ 1000000 by decide), h⟩
theorem x_lst0 {q : List T → Prop} (h : q []) : lstG q [] := ⟨[], rfl, (show 0 ≤ 1000000 by decide), h⟩
theorem x_tup1 {t0 : T} (h : P (.val (.tup [t0]))) : tupG P [.val t0] := ⟨[t0], rfl, (show 1 ≤ 1000000 by decide), h⟩
theorem x_lst1 {q : List T → Prop} {t0 : T} (h : q [t0]) : lstG q [.val t0] := ⟨[t0], rfl, (show 1 ≤ 1000000 by decide), h⟩
theorem x_tup2 {t0 t1 : T} (h : P (.val (.tup [t0, t1]))) : tupG P [.val t0, .val t1] := ⟨[t0, t1], rfl, (show 2 ≤ 1000000 by decide), h⟩
theorem x_lst2 {q : List T → Prop} {t0 t1 : T} (h : q [t0, t1]) : lstG q [.val t0, .val t1] := ⟨[t0, t1], rfl, (show 2 ≤ 1000000 by decide), h⟩
theorem x_tup3 {t0 t1 t2 : T} (h : P (.val (.tup [t0, t1, t2]))) : tupG P [.val t0, .val t1, .val t2] := ⟨[t0, t1, t2], rfl, (show 3 ≤ 1000000 by decide), h⟩
theorem x_lst3 {q : List T → Prop} {t0 t1 t2 : T} (h : q [t0, t1, t2]) : lstG q [.val t0, .val t1, .val t2] := ⟨[t0, t1, t2], rfl, (show 3 ≤ 1000000 by decide), h⟩
theorem x_tup4 {t0 t1 t2 t3 : T} (h : P (.val (.tup [t0, t1, t2, t3]))) : tupG P [.val t0, .val t1, .val t2, .val t3] := ⟨[t0, t1, t2, t3], rfl, (show 4 ≤ 1000000 by decide), h⟩
theorem x_lst4 {q : List T → Prop} {t0 t1 t2 t3 : T} (h : q [t0, t1, t2, t3]) : lstG q [.val t0, .val t1, .val t2, .val t3] := ⟨[t0, t1, t2, t3], rfl, (show 4 ≤ 1000000 by decide), h⟩
theorem x_tup5 {t0 t1 t2 t3 t4 : T} (h : P (.val (.tup [t0, t1, t2, t3, t4]))) : tupG P [.val t0, .val t1, .val t2, .val t3, .val t4] := ⟨[t0, t1, t2, t3, t4], rfl, (show 5 ≤ 1000000 by decide), h⟩
theorem x_lst5 {q : List T → Prop} {t0 t1 t2 t3 t4 : T} (h : q [t0, t1, t2, t3, t4]) : lstG q [.val t0, .val t1, .val t2, .val t3, .val t4] := ⟨[t0, t1, t2, t3, t4], rfl, (show 5 ≤ 1000000 by decide), h⟩
theorem x_tup6 {t0 t1 t2 t3 t4 t5 : T} (h : P (.val (.tup [t0, t1, t2, t3, t4, t5]))) : tupG P [.val t0, .val t1, .val t2, .val t3, .val t4, .val t5] := ⟨[t0, t1, t2, t3, t4, t5], rfl, (show 6 ≤ 1000000 by decide), h⟩
theorem x_lst6 {q : List T → Prop} {t0 t1 t2 t3 t4 t5 : T} (h : q [t0, t1, t2, t3, t4, t5]) : lstG q [.val t0, .val t1, .val t2, .val t3, .val t4, .val t5] := ⟨[t0, t1, t2, t3, t4, t5], rfl, (show 6 ≤ 1000000 by decide), h⟩
theorem x_tup7 {t0 t1 t2 t3 t4 t5 t6 : T} (h : P (.val (.tup [t0, t1, t2, t3, t4, t5, t6]))) : tupG P [.val t0, .val t1, .val t2, .val t3, .val t4, .val t5, .val t6] := ⟨[t0, t1, t2, t3, t4, t5, t6], rfl, (show 7 ≤ 1000000 by decide), h⟩
theorem x_lst7 {q : List T → Prop} {t0 t1 t2 t3 t4 t5 t6 : T} (h : q [t0, t1, t2, t3, t4, t5, t6]) : lstG q [.val t0, .val t1, .val t2, .val t3, .val t4, .val t5, .val t6] := ⟨[t0, t1, t2, t3, t4, t5, t6], rfl, (show 7 ≤ 1000000 by decide), h⟩
theorem x_tup8 {t0 t1 t2 t3 t4 t5 t6 t7 : T} (h : P (.val (.tup [t0, t1, t2, t3, t4, t5, t6, t7]))) : tupG P [.val t0, .val t1, .val t2, .val t3, .val t4, .val t5, .val t6, .val t7] := ⟨[t0, t1, t2, t3, t4, t5, t6, t7], rfl, (show 8 ≤ 1000000 by decide), h⟩
theorem x_lst8 {q : List T → Prop} {t0 t1 t2 t3 t4 t5 t6 t7 : T} (h : q [t0, t1, t2, t3, t4, t5, t6, t7]) : lstG q [.val t0, .val t1, .val t2, .val t3, .val t4, .val t5, .val t6, .val t7] := ⟨[t0, t1, t2, t3, t4, t5, t6, t7], rfl, (show 8 ≤ 1000000 by decide), h⟩
theorem x_tup9 {t0 t1 t2 t3 t4 t5 t6 t7 t8 : T} (h : P (.val (.tup [t0, t1, t2, t3, t4, t5, t6, t7, t8]))) : tupG P [.val t0, .val t1, .val t2, .val t3, .val t4, .val t5, .val t6, .val t7, .val t8] := ⟨[t0, t1, t2, t3, t4, t5, t6, t7, t8], rfl, (show 9 ≤ 1000000 by decide), h⟩
theorem x_lst9 {q : List T → Prop} {t0 t1 t2 t3 t4 t5 t6 t7 t8 : T} (h : q [t0, t1, t2, t3, t4, t5, t6, t7, t8]) : lstG q [.val t0, .val t1, .val t2, .val t3, .val t4, .val t5, .val t6, .val t7, .val t8] := ⟨[t0, t1, t2, t3, t4, t5, t6, t7, t8], rfl, (show 9 ≤ 1000000 by decide), h⟩
theorem x_tup10 {t0 t1 t2 t3 t4 t5 t6 t7 t8 t9 : T} (h : P (.val (.tup [t0, t1, t2, t3, t4, t5, t6, t7, t8, t9]))) : tupG P [.val t0, .val t1, .val t2, .val t3, .val t4, .val t5, .val t6, .val t7, .val t8, .val t9] := ⟨[t0, t1, t2, t3, t4, t5, t6, t7, t8, t9], rfl, (show 10 ≤ 1000000 by decide), h⟩
theorem x_lst10 {q : List T → Prop} {t0 t1 t2 t3 t4 t5 t6 t7 t8 t9 : T} (h : q [t0, t1, t2, t3, t4, t5, t6, t7, t8, t9]) : lstG q [.val t0, .val t1, .val t2, .val t3, .val t4, .val t5, .val t6, .val t7, .val t8, .val t9] := ⟨[t0, t1, t2, t3, t4, t5, t6, t7, t8, t9], rfl, (show 10 ≤ 1000000 by decide), h⟩
theorem x_tup11 {t0 t1 t2 t3 t4 t5 t6 t7 t8 t9 t10 : T} (h : P (.val (.tup [t0, t1, t2, t3, t4, t5, t6, t7, t8, t9, t10]))) : tupG P [.val t0, .val t1, .val t2, .val t3, .val t4, .val t5, .val t6, .val t7, .val t8, .val t9, .val t10] := ⟨[t0, t1, t2, t3, t4, t5, t6, t7, t8, t9, t10], rfl, (show 11 ≤ 1000000 by decide), h⟩
theorem x_lst11 {q : List T → Prop} {t0 t1 t2 t3 t4 t5 t6 t7 t8 t9 t10 : T} (h : q [t0, t1, t2, t3, t4, t5, t6, t7, t8, t9, t10]) : lstG q [.val t0, .val t1, .val t2, .val t3, .val t4, .val t5, .val t6, .val t7, .val t8, .val t9, .val t10] := ⟨[t0, t1, t2, t3, t4, t5, t6, t7, t8, t9, t10], rfl, (show 11 ≤ 1000000 by decide), h⟩
theorem x_tup12 {t0 t1 t2 t3 t4 t5 t6 t7 t8 t9 t10 t11 : T} (h : P (.val (.tup [t0, t1, t2, t3, t4, t5, t6, t7, t8, t9, t10, t11]))) : tupG P [.val t0, .val t1, .val t2, .val t3, .val t4, .val t5, .val t6, .val t7, .val t8, .val t9, .val t10, .val t11] := ⟨[t0, t1, t2, t3, t4, t5, t6, t7, t8, t9, t10, t11], rfl, (show 12 ≤ 1000000 by decide), h⟩
theorem x_lst12 {q : List T → Prop} {t0 t1 t2 t3 t4 t5 t6 t7 t8 t9 t10 t11 : T} (h : q [t0, t1, t2, t3, t4, t5, t6, t7, t8, t9, t10, t11]) : lstG q [.val t0, .val t1, .val t2, .val t3, .val t4, .val t5, .val t6, .val t7, .val t8, .val t9, .val t10, .val t11] := ⟨[t0, t1, t2, t3, t4, t5, t6, t7, t8, t9, t10, t11], rfl, (show 12 ≤ 1000000 by decide), h⟩
theorem x_tup13 {t0 t1 t2 t3 t4 t5 t6 t7 t8 t9 t10 t11 t12 : T} (h : P (.val (.tup [t0, t1, t2, t3, t4, t5, t6, t7, t8, t9, t10, t11, t12]))) : tupG P [.val t0, .val t1, .val t2, .val t3, .val t4, .val t5, .val t6, .val t7, .val t8, .val t9, .val t10, .val t11, .val t12] := ⟨[t0, t1, t2, t3, t4, t5, t6, t7, t8, t9, t10, t11, t12], rfl, (show 13 ≤ 1000000 by decide), h⟩
theorem x_lst13 {q : List T → Prop} {t0 t1 t2 t3 t4 t5 t6 t7 t8 t9 t10 t11 t12 : T} (h : q [t0, t1, t2, t3, t4, t5, t6, t7, t8, t9, t10, t11, t12]) : lstG q [.val t0, .val t1, .val t2, .val t3, .val t4, .val t5, .val t6, .val t7, .val t8, .val t9, .val t10, .val t11, .val t12] := ⟨[t0, t1, t2, t3, t4, t5, t6, t7, t8, t9, t10, t11, t12], rfl, (show 13 ≤ 1000000 by decide), h⟩
theorem x_L {e : WL} (h : e sl fun ts => P (.val (.lst ts))) : wL e sl P := h
theorem x_lof {e : WA} {q : List T → Prop} (h : e sl fun xs => lofG q xs) : wLstOf e sl q := h
theorem x_loflst {q : List T → Prop} (h : q ts) : lofG q [.val (.lst ts)] := ⟨_, _, _, rfl, rfl, rfl, h⟩
theorem x_loftup {q : List T → Prop} (h : q ts) : lofG q [.val (.tup ts)] := ⟨_, _, _, rfl, rfl, rfl, h⟩
theorem x_lofscr {q : List T → Prop} (h : q ts) : lofG q [.val (.scr ts)] := ⟨_, _, _, rfl, rfl, rfl, h⟩
theorem x_lofo {l : Addr} {q : List T → Prop} (h : q ts) : lofG q [.own l ts] := ⟨_, _, _, rfl, rfl, rfl, h⟩
theorem x_sl {p q : WO} (h : a sl fun x => p sl fun lo => q sl fun hi => slG P x lo hi) : wSl a p q sl P := h
theorem x_slt {lo hi : Option Int} (h : P (.val (.tup (cutT ts lo hi)))) : slG P (.val (.tup ts)) lo hi := ⟨_, _, rfl, rfl, h⟩
theorem x_sll {lo hi : Option Int} (h : P (.val (.lst (cutT ts lo hi)))) : slG P (.val (.lst ts)) lo hi := ⟨_, _, rfl, rfl, h⟩
theorem x_slo {k : Addr} {lo hi : Option Int} (h : P (.val (.lst (cutT ts lo hi)))) : slG P (.own k ts) lo hi := ⟨_, _, rfl, rfl, h⟩
theorem x_sls {p : Str} {lo hi : Option Int} (e : p.length ≤ 1000000) (h : P (.val (.str (cutS p lo hi)))) : slG P (.val (.str p)) lo hi := ⟨_, _, rfl, if_pos (decide_eq_true e), h⟩
theorem x_oN {q : Option Int → Prop} (h : q none) : woNone sl q := h
theorem x_oS {q : Option Int → Prop} (h : a sl fun x => osG q x) : woSome a sl q := h
theorem x_oSv {q : Option Int → Prop} (h : q (some m)) : osG q (.val (.int m)) := ⟨m, rfl, h⟩
theorem x_cb {g : List T → Option T} {e : WA} (h : e sl fun xs => cbG g P xs) : wCB g e sl P := h
theorem x_lenlst (h : P (.val (.int ts.length))) : cbG lenT P [.val (.lst ts)] := ⟨_, _, rfl, rfl, h⟩
theorem x_tupoflst (h : P (.val (.tup ts))) : cbG tupleT P [.val (.lst ts)] := ⟨_, _, rfl, rfl, h⟩
theorem x_lentup (h : P (.val (.int ts.length))) : cbG lenT P [.val (.tup ts)] := ⟨_, _, rfl, rfl, h⟩
theorem x_tupoftup (h : P (.val (.tup ts))) : cbG tupleT P [.val (.tup ts)] := ⟨_, _, rfl, rfl, h⟩
theorem x_lenscr (h : P (.val (.int ts.length))) : cbG lenT P [.val (.scr ts)] := ⟨_, _, rfl, rfl, h⟩
theorem x_tupofscr (h : P (.val (.tup ts))) : cbG tupleT P [.val (.scr ts)] := ⟨_, _, rfl, rfl, h⟩
theorem x_leno {l : Addr} (h : P (.val (.int ts.length))) : cbG lenT P [.own l ts] := ⟨_, _, rfl, rfl, h⟩
theorem x_tupofo {l : Addr} (h : P (.val (.tup ts))) : cbG tupleT P [.own l ts] := ⟨_, _, rfl, rfl, h⟩
theorem x_lens {p : Str} (e : p.length ≤ 1000000) (h : P (.val (.int p.length))) : cbG lenT P [.val (.str p)] := ⟨_, _, rfl, if_pos (decide_eq_true e), h⟩
theorem x_intb (h : P (.val (.int 1))) : cbG intT P [.val (.bl true)] := ⟨_, _, rfl, rfl, h⟩
theorem x_intb0 (h : P (.val (.int 0))) : cbG intT P [.val (.bl false)] := ⟨_, _, rfl, rfl, h⟩
theorem x_inti (h : P (.val (.int m))) : cbG intT P [.val (.int m)] := ⟨_, _, rfl, rfl, h⟩
theorem x_max2 (h : P (.val (.int (if n > m then n else m)))) : cbG max2T P [.val (.int m), .val (.int n)] := ⟨_, _, rfl, rfl, h⟩
theorem x_min2 (h : P (.val (.int (if n < m then n else m)))) : cbG min2T P [.val (.int m), .val (.int n)] := ⟨_, _, rfl, rfl, h⟩
theorem x_abs (h : P (.val (.int (if m < 0 then -m else m)))) : cbG absT P [.val (.int m)] := ⟨_, _, rfl, rfl, h⟩
theorem x_isinint (h : P (.val (.bl false))) : cbG isiT P [.val .non, .val (.ty "int")] := ⟨_, _, rfl, (isi_non).trans (by rw [kb_NoneType_int]; rfl), h⟩
theorem x_isinbool (h : P (.val (.bl false))) : cbG isiT P [.val .non, .val (.ty "bool")] := ⟨_, _, rfl, (isi_non).trans (by rw [kb_NoneType_bool]; rfl), h⟩
theorem x_isinstr (h : P (.val (.bl false))) : cbG isiT P [.val .non, .val (.ty "str")] := ⟨_, _, rfl, (isi_non).trans (by rw [kb_NoneType_str]; rfl), h⟩
theorem x_isintuple (h : P (.val (.bl false))) : cbG isiT P [.val .non, .val (.ty "tuple")] := ⟨_, _, rfl, (isi_non).trans (by rw [kb_NoneType_tuple]; rfl), h⟩
theorem x_isinlist (h : P (.val (.bl false))) : cbG isiT P [.val .non, .val (.ty "list")] := ⟨_, _, rfl, (isi_non).trans (by rw [kb_NoneType_list]; rfl), h⟩
theorem x_isindict (h : P (.val (.bl false))) : cbG isiT P [.val .non, .val (.ty "dict")] := ⟨_, _, rfl, (isi_non).trans (by rw [kb_NoneType_dict]; rfl), h⟩
theorem x_isibint {v : Bool} (h : P (.val (.bl true))) : cbG isiT P [.val (.bl v), .val (.ty "int")] := ⟨_, _, rfl, (isi_bl).trans (by rw [kb_bool_int]; rfl), h⟩
theorem x_isibbool {v : Bool} (h : P (.val (.bl true))) : cbG isiT P [.val (.bl v), .val (.ty "bool")] := ⟨_, _, rfl, (isi_bl).trans (by rw [kb_bool_bool]; rfl), h⟩
theorem x_isibstr {v : Bool} (h : P (.val (.bl false))) : cbG isiT P [.val (.bl v), .val (.ty "str")] := ⟨_, _, rfl, (isi_bl).trans (by rw [kb_bool_str]; rfl), h⟩
theorem x_isibtuple {v : Bool} (h : P (.val (.bl false))) : cbG isiT P [.val (.bl v), .val (.ty "tuple")] := ⟨_, _, rfl, (isi_bl).trans (by rw [kb_bool_tuple]; rfl), h⟩
theorem x_isiblist {v : Bool} (h : P (.val (.bl false))) : cbG isiT P [.val (.bl v), .val (.ty "list")] := ⟨_, _, rfl, (isi_bl).trans (by rw [kb_bool_list]; rfl), h⟩
theorem x_isibdict {v : Bool} (h : P (.val (.bl false))) : cbG isiT P [.val (.bl v), .val (.ty "dict")] := ⟨_, _, rfl, (isi_bl).trans (by rw [kb_bool_dict]; rfl), h⟩
theorem x_isiiint (h : P (.val (.bl true))) : cbG isiT P [.val (.int m), .val (.ty "int")] := ⟨_, _, rfl, (isi_int).trans (by rw [kb_int_int]; rfl), h⟩
theorem x_isiibool (h : P (.val (.bl false))) : cbG isiT P [.val (.int m), .val (.ty "bool")] := ⟨_, _, rfl, (isi_int).trans (by rw [kb_int_bool]; rfl), h⟩
theorem x_isiistr (h : P (.val (.bl false))) : cbG isiT P [.val (.int m), .val (.ty "str")] := ⟨_, _, rfl, (isi_int).trans (by rw [kb_int_str]; rfl), h⟩
theorem x_isiituple (h : P (.val (.bl false))) : cbG isiT P [.val (.int m), .val (.ty "tuple")] := ⟨_, _, rfl, (isi_int).trans (by rw [kb_int_tuple]; rfl), h⟩
theorem x_isiilist (h : P (.val (.bl false))) : cbG isiT P [.val (.int m), .val (.ty "list")] := ⟨_, _, rfl, (isi_int).trans (by rw [kb_int_list]; rfl), h⟩
theorem x_isiidict (h : P (.val (.bl false))) : cbG isiT P [.val (.int m), .val (.ty "dict")] := ⟨_, _, rfl, (isi_int).trans (by rw [kb_int_dict]; rfl), h⟩
theorem x_isisint {p : Str} (h : P (.val (.bl false))) : cbG isiT P [.val (.str p), .val (.ty "int")] := ⟨_, _, rfl, (isi_str).trans (by rw [kb_str_int]; rfl), h⟩
theorem x_isisbool {p : Str} (h : P (.val (.bl false))) : cbG isiT P [.val (.str p), .val (.ty "bool")] := ⟨_, _, rfl, (isi_str).trans (by rw [kb_str_bool]; rfl), h⟩
theorem x_isisstr {p : Str} (h : P (.val (.bl true))) : cbG isiT P [.val (.str p), .val (.ty "str")] := ⟨_, _, rfl, (isi_str).trans (by rw [kb_str_str]; rfl), h⟩
theorem x_isistuple {p : Str} (h : P (.val (.bl false))) : cbG isiT P [.val (.str p), .val (.ty "tuple")] := ⟨_, _, rfl, (isi_str).trans (by rw [kb_str_tuple]; rfl), h⟩
theorem x_isislist {p : Str} (h : P (.val (.bl false))) : cbG isiT P [.val (.str p), .val (.ty "list")] := ⟨_, _, rfl, (isi_str).trans (by rw [kb_str_list]; rfl), h⟩
theorem x_isisdict {p : Str} (h : P (.val (.bl false))) : cbG isiT P [.val (.str p), .val (.ty "dict")] := ⟨_, _, rfl, (isi_str).trans (by rw [kb_str_dict]; rfl), h⟩
theorem x_isitint (h : P (.val (.bl false))) : cbG isiT P [.val (.tup ts), .val (.ty "int")] := ⟨_, _, rfl, (isi_tup).trans (by rw [kb_tuple_int]; rfl), h⟩
theorem x_isitbool (h : P (.val (.bl false))) : cbG isiT P [.val (.tup ts), .val (.ty "bool")] := ⟨_, _, rfl, (isi_tup).trans (by rw [kb_tuple_bool]; rfl), h⟩
theorem x_isitstr (h : P (.val (.bl false))) : cbG isiT P [.val (.tup ts), .val (.ty "str")] := ⟨_, _, rfl, (isi_tup).trans (by rw [kb_tuple_str]; rfl), h⟩
theorem x_isittuple (h : P (.val (.bl true))) : cbG isiT P [.val (.tup ts), .val (.ty "tuple")] := ⟨_, _, rfl, (isi_tup).trans (by rw [kb_tuple_tuple]; rfl), h⟩
theorem x_isitlist (h : P (.val (.bl false))) : cbG isiT P [.val (.tup ts), .val (.ty "list")] := ⟨_, _, rfl, (isi_tup).trans (by rw [kb_tuple_list]; rfl), h⟩
theorem x_isitdict (h : P (.val (.bl false))) : cbG isiT P [.val (.tup ts), .val (.ty "dict")] := ⟨_, _, rfl, (isi_tup).trans (by rw [kb_tuple_dict]; rfl), h⟩
theorem x_isilint (h : P (.val (.bl false))) : cbG isiT P [.val (.lst ts), .val (.ty "int")] := ⟨_, _, rfl, (isi_lst).trans (by rw [kb_list_int]; rfl), h⟩
theorem x_isilbool (h : P (.val (.bl false))) : cbG isiT P [.val (.lst ts), .val (.ty "bool")] := ⟨_, _, rfl, (isi_lst).trans (by rw [kb_list_bool]; rfl), h⟩
theorem x_isilstr (h : P (.val (.bl false))) : cbG isiT P [.val (.lst ts), .val (.ty "str")] := ⟨_, _, rfl, (isi_lst).trans (by rw [kb_list_str]; rfl), h⟩
theorem x_isiltuple (h : P (.val (.bl false))) : cbG isiT P [.val (.lst ts), .val (.ty "tuple")] := ⟨_, _, rfl, (isi_lst).trans (by rw [kb_list_tuple]; rfl), h⟩
theorem x_isillist (h : P (.val (.bl true))) : cbG isiT P [.val (.lst ts), .val (.ty "list")] := ⟨_, _, rfl, (isi_lst).trans (by rw [kb_list_list]; rfl), h⟩
theorem x_isildict (h : P (.val (.bl false))) : cbG isiT P [.val (.lst ts), .val (.ty "dict")] := ⟨_, _, rfl, (isi_lst).trans (by rw [kb_list_dict]; rfl), h⟩
theorem x_isidint {ks : List Key} (h : P (.val (.bl false))) : cbG isiT P [.val (.dct ks ts), .val (.ty "int")] := ⟨_, _, rfl, (isi_dct).trans (by rw [kb_dict_int]; rfl), h⟩
theorem x_isidbool {ks : List Key} (h : P (.val (.bl false))) : cbG isiT P [.val (.dct ks ts), .val (.ty "bool")] := ⟨_, _, rfl, (isi_dct).trans (by rw [kb_dict_bool]; rfl), h⟩
theorem x_isidstr {ks : List Key} (h : P (.val (.bl false))) : cbG isiT P [.val (.dct ks ts), .val (.ty "str")] := ⟨_, _, rfl, (isi_dct).trans (by rw [kb_dict_str]; rfl), h⟩
theorem x_isidtuple {ks : List Key} (h : P (.val (.bl false))) : cbG isiT P [.val (.dct ks ts), .val (.ty "tuple")] := ⟨_, _, rfl, (isi_dct).trans (by rw [kb_dict_tuple]; rfl), h⟩
theorem x_isidlist {ks : List Key} (h : P (.val (.bl false))) : cbG isiT P [.val (.dct ks ts), .val (.ty "list")] := ⟨_, _, rfl, (isi_dct).trans (by rw [kb_dict_list]; rfl), h⟩
theorem x_isiddict {ks : List Key} (h : P (.val (.bl true))) : cbG isiT P [.val (.dct ks ts), .val (.ty "dict")] := ⟨_, _, rfl, (isi_dct).trans (by rw [kb_dict_dict]; rfl), h⟩
theorem x_lc {wi : WI} {g : Tg} {wt : WT} {we : WE} {vs : List Nat} {q : List T → Prop} (h : wi sl fun ts => lcG g wt we (wipeS sl vs) q ts) : wLc wi g wt we vs sl q := h
theorem x_iseq {q : List T → Prop} (h : a sl fun x => seqG q x) : wiSeq a sl q := h
theorem x_seqlst {q : List T → Prop} (h : q ts) : seqG q (.val (.lst ts)) := ⟨_, _, rfl, rfl, h⟩
theorem x_seqtup {q : List T → Prop} (h : q ts) : seqG q (.val (.tup ts)) := ⟨_, _, rfl, rfl, h⟩
theorem x_seqscr {q : List T → Prop} (h : q ts) : seqG q (.val (.scr ts)) := ⟨_, _, rfl, rfl, h⟩
theorem x_istr {q : List T → Prop} (h : a sl fun x => wstG q x) : wiStr a sl q := h
theorem x_istrv {q : List T → Prop} {p : Str} (h : q (sgnT p)) : wstG q (.val (.str p)) := ⟨_, rfl, h⟩
theorem x_rg1 {e : WA} {q : List T → Prop} (h : e sl fun xs => rg1G q xs) : wiRng1 e sl q := h
theorem x_rg1v {q : List T → Prop} (h0 : -(2 ^ 62) ≤ n) (h1 : n < 2 ^ 62) (h : q (upTo 0 n.toNat)) : rg1G q [.val (.int n)] := ⟨n, rfl, h0, h1, h⟩
theorem x_rg2 {e : WA} {q : List T → Prop} (h : e sl fun xs => rg2G q xs) : wiRng2 e sl q := h
theorem x_rg2v {q : List T → Prop} (h0 : -(2 ^ 62) ≤ m) (h1 : m < 2 ^ 62) (h2 : -(2 ^ 62) ≤ n) (h3 : n < 2 ^ 62) (h : q (upTo m (n - m).toNat)) : rg2G q [.val (.int m), .val (.int n)] := ⟨m, n, rfl, ⟨h0, h1, h2, h3⟩, h⟩
theorem x_en {e : WA} {q : List T → Prop} (h : e sl fun xs => enG q xs) : wiEnum e sl q := h
theorem x_enl {q : List T → Prop} (h : q (enT 0 ts)) : enG q [.val (.lst ts)] := ⟨_, _, rfl, .inl rfl, h⟩
theorem x_ent {q : List T → Prop} (h : q (enT 0 ts)) : enG q [.val (.tup ts)] := ⟨_, _, rfl, .inr rfl, h⟩
theorem x_sw (h : a sl fun x => sw1 b sl P x) : wSw a b sl P := h
theorem x_sw1 {p : Str} (h : b sl fun y => sw2 P p y) : sw1 b sl P (.val (.str p)) := ⟨_, rfl, h⟩
theorem x_swv {p q : Str} (h : P (.val (.bl (Txt.startswith p q)))) : sw2 P p (.val (.str q)) := ⟨_, rfl, h⟩
theorem x_call {wf : WF} {dts : List T} {e : WA} (h : e sl fun xs => callG wf dts P xs) : wCall wf dts e sl P := h
theorem x_call0_0 {wf : WF} (e : List.all [] isArg = true) (h : wf [] P) : callG wf [] P [] := ⟨e, h⟩
theorem x_call0_1 {wf : WF} (e : List.all [] isArg = true) (h : wf [.val s] P) : callG wf [s] P [] := ⟨e, h⟩
theorem x_call0_2 {wf : WF} (e : List.all [] isArg = true) (h : wf [.val s, .val t] P) : callG wf [s, t] P [] := ⟨e, h⟩
theorem x_call0_3 {wf : WF} (e : List.all [] isArg = true) (h : wf [.val s, .val t, .val u] P) : callG wf [s, t, u] P [] := ⟨e, h⟩
theorem x_call1_0 {x0 : Sl} {wf : WF} (e : List.all [x0] isArg = true) (h : wf [x0] P) : callG wf [] P [x0] := ⟨e, h⟩
theorem x_call1_1 {x0 : Sl} {wf : WF} (e : List.all [x0] isArg = true) (h : wf [x0, .val s] P) : callG wf [s] P [x0] := ⟨e, h⟩
theorem x_call1_2 {x0 : Sl} {wf : WF} (e : List.all [x0] isArg = true) (h : wf [x0, .val s, .val t] P) : callG wf [s, t] P [x0] := ⟨e, h⟩
theorem x_call1_3 {x0 : Sl} {wf : WF} (e : List.all [x0] isArg = true) (h : wf [x0, .val s, .val t, .val u] P) : callG wf [s, t, u] P [x0] := ⟨e, h⟩
theorem x_call2_0 {x0 x1 : Sl} {wf : WF} (e : List.all [x0, x1] isArg = true) (h : wf [x0, x1] P) : callG wf [] P [x0, x1] := ⟨e, h⟩
theorem x_call2_1 {x0 x1 : Sl} {wf : WF} (e : List.all [x0, x1] isArg = true) (h : wf [x0, x1, .val s] P) : callG wf [s] P [x0, x1] := ⟨e, h⟩
theorem x_call2_2 {x0 x1 : Sl} {wf : WF} (e : List.all [x0, x1] isArg = true) (h : wf [x0, x1, .val s, .val t] P) : callG wf [s, t] P [x0, x1] := ⟨e, h⟩
theorem x_call2_3 {x0 x1 : Sl} {wf : WF} (e : List.all [x0, x1] isArg = true) (h : wf [x0, x1, .val s, .val t, .val u] P) : callG wf [s, t, u] P [x0, x1] := ⟨e, h⟩
theorem x_call3_0 {x0 x1 x2 : Sl} {wf : WF} (e : List.all [x0, x1, x2] isArg = true) (h : wf [x0, x1, x2] P) : callG wf [] P [x0, x1, x2] := ⟨e, h⟩
theorem x_call3_1 {x0 x1 x2 : Sl} {wf : WF} (e : List.all [x0, x1, x2] isArg = true) (h : wf [x0, x1, x2, .val s] P) : callG wf [s] P [x0, x1, x2] := ⟨e, h⟩
theorem x_call3_2 {x0 x1 x2 : Sl} {wf : WF} (e : List.all [x0, x1, x2] isArg = true) (h : wf [x0, x1, x2, .val s, .val t] P) : callG wf [s, t] P [x0, x1, x2] := ⟨e, h⟩
theorem x_call3_3 {x0 x1 x2 : Sl} {wf : WF} (e : List.all [x0, x1, x2] isArg = true) (h : wf [x0, x1, x2, .val s, .val t, .val u] P) : callG wf [s, t, u] P [x0, x1, x2] := ⟨e, h⟩
theorem x_call4_0 {x0 x1 x2 x3 : Sl} {wf : WF} (e : List.all [x0, x1, x2, x3] isArg = true) (h : wf [x0, x1, x2, x3] P) : callG wf [] P [x0, x1, x2, x3] := ⟨e, h⟩
theorem x_call4_1 {x0 x1 x2 x3 : Sl} {wf : WF} (e : List.all [x0, x1, x2, x3] isArg = true) (h : wf [x0, x1, x2, x3, .val s] P) : callG wf [s] P [x0, x1, x2, x3] := ⟨e, h⟩
theorem x_call4_2 {x0 x1 x2 x3 : Sl} {wf : WF} (e : List.all [x0, x1, x2, x3] isArg = true) (h : wf [x0, x1, x2, x3, .val s, .val t] P) : callG wf [s, t] P [x0, x1, x2, x3] := ⟨e, h⟩
theorem x_call4_3 {x0 x1 x2 x3 : Sl} {wf : WF} (e : List.all [x0, x1, x2, x3] isArg = true) (h : wf [x0, x1, x2, x3, .val s, .val t, .val u] P) : callG wf [s, t, u] P [x0, x1, x2, x3] := ⟨e, h⟩
theorem x_call5_0 {x0 x1 x2 x3 x4 : Sl} {wf : WF} (e : List.all [x0, x1, x2, x3, x4] isArg = true) (h : wf [x0, x1, x2, x3, x4] P) : callG wf [] P [x0, x1, x2, x3, x4] := ⟨e, h⟩
theorem x_call5_1 {x0 x1 x2 x3 x4 : Sl} {wf : WF} (e : List.all [x0, x1, x2, x3, x4] isArg = true) (h : wf [x0, x1, x2, x3, x4, .val s] P) : callG wf [s] P [x0, x1, x2, x3, x4] := ⟨e, h⟩
theorem x_call5_2 {x0 x1 x2 x3 x4 : Sl} {wf : WF} (e : List.all [x0, x1, x2, x3, x4] isArg = true) (h : wf [x0, x1, x2, x3, x4, .val s, .val t] P) : callG wf [s, t] P [x0, x1, x2, x3, x4] := ⟨e, h⟩
theorem x_call5_3 {x0 x1 x2 x3 x4 : Sl} {wf : WF} (e : List.all [x0, x1, x2, x3, x4] isArg = true) (h : wf [x0, x1, x2, x3, x4, .val s, .val t, .val u] P) : callG wf [s, t, u] P [x0, x1, x2, x3, x4] := ⟨e, h⟩
theorem x_call6_0 {x0 x1 x2 x3 x4 x5 : Sl} {wf : WF} (e : List.all [x0, x1, x2, x3, x4, x5] isArg = true) (h : wf [x0, x1, x2, x3, x4, x5] P) : callG wf [] P [x0, x1, x2, x3, x4, x5] := ⟨e, h⟩
theorem x_call6_1 {x0 x1 x2 x3 x4 x5 : Sl} {wf : WF} (e : List.all [x0, x1, x2, x3, x4, x5] isArg = true) (h : wf [x0, x1, x2, x3, x4, x5, .val s] P) : callG wf [s] P [x0, x1, x2, x3, x4, x5] := ⟨e, h⟩
theorem x_call6_2 {x0 x1 x2 x3 x4 x5 : Sl} {wf : WF} (e : List.all [x0, x1, x2, x3, x4, x5] isArg = true) (h : wf [x0, x1, x2, x3, x4, x5, .val s, .val t] P) : callG wf [s, t] P [x0, x1, x2, x3, x4, x5] := ⟨e, h⟩
theorem x_call6_3 {x0 x1 x2 x3 x4 x5 : Sl} {wf : WF} (e : List.all [x0, x1, x2, x3, x4, x5] isArg = true) (h : wf [x0, x1, x2, x3, x4, x5, .val s, .val t, .val u] P) : callG wf [s, t, u] P [x0, x1, x2, x3, x4, x5] := ⟨e, h⟩
theorem x_call7_0 {x0 x1 x2 x3 x4 x5 x6 : Sl} {wf : WF} (e : List.all [x0, x1, x2, x3, x4, x5, x6] isArg = true) (h : wf [x0, x1, x2, x3, x4, x5, x6] P) : callG wf [] P [x0, x1, x2, x3, x4, x5, x6] := ⟨e, h⟩
theorem x_call7_1 {x0 x1 x2 x3 x4 x5 x6 : Sl} {wf : WF} (e : List.all [x0, x1, x2, x3, x4, x5, x6] isArg = true) (h : wf [x0, x1, x2, x3, x4, x5, x6, .val s] P) : callG wf [s] P [x0, x1, x2, x3, x4, x5, x6] := ⟨e, h⟩
theorem x_call7_2 {x0 x1 x2 x3 x4 x5 x6 : Sl} {wf : WF} (e : List.all [x0, x1, x2, x3, x4, x5, x6] isArg = true) (h : wf [x0, x1, x2, x3, x4, x5, x6, .val s, .val t] P) : callG wf [s, t] P [x0, x1, x2, x3, x4, x5, x6] := ⟨e, h⟩
theorem x_call7_3 {x0 x1 x2 x3 x4 x5 x6 : Sl} {wf : WF} (e : List.all [x0, x1, x2, x3, x4, x5, x6] isArg = true) (h : wf [x0, x1, x2, x3, x4, x5, x6, .val s, .val t, .val u] P) : callG wf [s, t, u] P [x0, x1, x2, x3, x4, x5, x6] := ⟨e, h⟩
theorem x_met {C : Addr} {m : Str} {wf : WF} {dts : List T} {e : WA} (h : a sl fun x => meG C m wf dts e sl P x) : wMeth C m wf dts a e sl P := h
theorem x_metI {C : Addr} {m : Str} {ns : List Str} {wf : WF} {dts : List T} {e : WA} (hm : m ∉ ns) (h : e sl fun xs => metG wf dts P (.val (.ins C ns ts)) xs) : meG C m wf dts e sl P (.val (.ins C ns ts)) := ⟨ns, ts, rfl, hm, h⟩
theorem x_met0_0 {wf : WF} (e : List.all [] isArg = true) (h : wf [x] P) : metG wf [] P x [] := ⟨e, h⟩
theorem x_met0_1 {wf : WF} (e : List.all [] isArg = true) (h : wf [x, .val s] P) : metG wf [s] P x [] := ⟨e, h⟩
theorem x_met0_2 {wf : WF} (e : List.all [] isArg = true) (h : wf [x, .val s, .val t] P) : metG wf [s, t] P x [] := ⟨e, h⟩
theorem x_met1_0 {x0 : Sl} {wf : WF} (e : List.all [x0] isArg = true) (h : wf [x, x0] P) : metG wf [] P x [x0] := ⟨e, h⟩
theorem x_met1_1 {x0 : Sl} {wf : WF} (e : List.all [x0] isArg = true) (h : wf [x, x0, .val s] P) : metG wf [s] P x [x0] := ⟨e, h⟩
theorem x_met1_2 {x0 : Sl} {wf : WF} (e : List.all [x0] isArg = true) (h : wf [x, x0, .val s, .val t] P) : metG wf [s, t] P x [x0] := ⟨e, h⟩
theorem x_met2_0 {x0 x1 : Sl} {wf : WF} (e : List.all [x0, x1] isArg = true) (h : wf [x, x0, x1] P) : metG wf [] P x [x0, x1] := ⟨e, h⟩
theorem x_met2_1 {x0 x1 : Sl} {wf : WF} (e : List.all [x0, x1] isArg = true) (h : wf [x, x0, x1, .val s] P) : metG wf [s] P x [x0, x1] := ⟨e, h⟩
theorem x_met2_2 {x0 x1 : Sl} {wf : WF} (e : List.all [x0, x1] isArg = true) (h : wf [x, x0, x1, .val s, .val t] P) : metG wf [s, t] P x [x0, x1] := ⟨e, h⟩
theorem x_met3_0 {x0 x1 x2 : Sl} {wf : WF} (e : List.all [x0, x1, x2] isArg = true) (h : wf [x, x0, x1, x2] P) : metG wf [] P x [x0, x1, x2] := ⟨e, h⟩
theorem x_met3_1 {x0 x1 x2 : Sl} {wf : WF} (e : List.all [x0, x1, x2] isArg = true) (h : wf [x, x0, x1, x2, .val s] P) : metG wf [s] P x [x0, x1, x2] := ⟨e, h⟩
theorem x_met3_2 {x0 x1 x2 : Sl} {wf : WF} (e : List.all [x0, x1, x2] isArg = true) (h : wf [x, x0, x1, x2, .val s, .val t] P) : metG wf [s, t] P x [x0, x1, x2] := ⟨e, h⟩
theorem x_met4_0 {x0 x1 x2 x3 : Sl} {wf : WF} (e : List.all [x0, x1, x2, x3] isArg = true) (h : wf [x, x0, x1, x2, x3] P) : metG wf [] P x [x0, x1, x2, x3] := ⟨e, h⟩
theorem x_met4_1 {x0 x1 x2 x3 : Sl} {wf : WF} (e : List.all [x0, x1, x2, x3] isArg = true) (h : wf [x, x0, x1, x2, x3, .val s] P) : metG wf [s] P x [x0, x1, x2, x3] := ⟨e, h⟩
theorem x_met4_2 {x0 x1 x2 x3 : Sl} {wf : WF} (e : List.all [x0, x1, x2, x3] isArg = true) (h : wf [x, x0, x1, x2, x3, .val s, .val t] P) : metG wf [s, t] P x [x0, x1, x2, x3] := ⟨e, h⟩
theorem x_met5_0 {x0 x1 x2 x3 x4 : Sl} {wf : WF} (e : List.all [x0, x1, x2, x3, x4] isArg = true) (h : wf [x, x0, x1, x2, x3, x4] P) : metG wf [] P x [x0, x1, x2, x3, x4] := ⟨e, h⟩
theorem x_met5_1 {x0 x1 x2 x3 x4 : Sl} {wf : WF} (e : List.all [x0, x1, x2, x3, x4] isArg = true) (h : wf [x, x0, x1, x2, x3, x4, .val s] P) : metG wf [s] P x [x0, x1, x2, x3, x4] := ⟨e, h⟩
theorem x_met5_2 {x0 x1 x2 x3 x4 : Sl} {wf : WF} (e : List.all [x0, x1, x2, x3, x4] isArg = true) (h : wf [x, x0, x1, x2, x3, x4, .val s, .val t] P) : metG wf [s, t] P x [x0, x1, x2, x3, x4] := ⟨e, h⟩
theorem x_met6_0 {x0 x1 x2 x3 x4 x5 : Sl} {wf : WF} (e : List.all [x0, x1, x2, x3, x4, x5] isArg = true) (h : wf [x, x0, x1, x2, x3, x4, x5] P) : metG wf [] P x [x0, x1, x2, x3, x4, x5] := ⟨e, h⟩
theorem x_met6_1 {x0 x1 x2 x3 x4 x5 : Sl} {wf : WF} (e : List.all [x0, x1, x2, x3, x4, x5] isArg = true) (h : wf [x, x0, x1, x2, x3, x4, x5, .val s] P) : metG wf [s] P x [x0, x1, x2, x3, x4, x5] := ⟨e, h⟩
theorem x_met6_2 {x0 x1 x2 x3 x4 x5 : Sl} {wf : WF} (e : List.all [x0, x1, x2, x3, x4, x5] isArg = true) (h : wf [x, x0, x1, x2, x3, x4, x5, .val s, .val t] P) : metG wf [s, t] P x [x0, x1, x2, x3, x4, x5] := ⟨e, h⟩
theorem x_met7_0 {x0 x1 x2 x3 x4 x5 x6 : Sl} {wf : WF} (e : List.all [x0, x1, x2, x3, x4, x5, x6] isArg = true) (h : wf [x, x0, x1, x2, x3, x4, x5, x6] P) : metG wf [] P x [x0, x1, x2, x3, x4, x5, x6] := ⟨e, h⟩
theorem x_met7_1 {x0 x1 x2 x3 x4 x5 x6 : Sl} {wf : WF} (e : List.all [x0, x1, x2, x3, x4, x5, x6] isArg = true) (h : wf [x, x0, x1, x2, x3, x4, x5, x6, .val s] P) : metG wf [s] P x [x0, x1, x2, x3, x4, x5, x6] := ⟨e, h⟩
theorem x_met7_2 {x0 x1 x2 x3 x4 x5 x6 : Sl} {wf : WF} (e : List.all [x0, x1, x2, x3, x4, x5, x6] isArg = true) (h : wf [x, x0, x1, x2, x3, x4, x5, x6, .val s, .val t] P) : metG wf [s, t] P x [x0, x1, x2, x3, x4, x5, x6] := ⟨e, h⟩
theorem x_mk {C : Addr} {wf : WM} {dts : List T} {e : WA} (h : e sl fun xs => makG C wf dts P xs) : wMakeP C dts wf e sl P := h
theorem x_mk0_0 {C : Addr} {wf : WM} (e : List.all [] isArg = true) (h : wf [] fun ns ts => P (.val (.ins C ns ts))) : makG C wf [] P [] := ⟨e, h⟩
theorem x_mk0_1 {C : Addr} {wf : WM} (e : List.all [] isArg = true) (h : wf [.val s] fun ns ts => P (.val (.ins C ns ts))) : makG C wf [s] P [] := ⟨e, h⟩
theorem x_mk0_2 {C : Addr} {wf : WM} (e : List.all [] isArg = true) (h : wf [.val s, .val t] fun ns ts => P (.val (.ins C ns ts))) : makG C wf [s, t] P [] := ⟨e, h⟩
theorem x_mk0_3 {C : Addr} {wf : WM} (e : List.all [] isArg = true) (h : wf [.val s, .val t, .val u] fun ns ts => P (.val (.ins C ns ts))) : makG C wf [s, t, u] P [] := ⟨e, h⟩
theorem x_mk1_0 {x0 : Sl} {C : Addr} {wf : WM} (e : List.all [x0] isArg = true) (h : wf [x0] fun ns ts => P (.val (.ins C ns ts))) : makG C wf [] P [x0] := ⟨e, h⟩
theorem x_mk1_1 {x0 : Sl} {C : Addr} {wf : WM} (e : List.all [x0] isArg = true) (h : wf [x0, .val s] fun ns ts => P (.val (.ins C ns ts))) : makG C wf [s] P [x0] := ⟨e, h⟩
theorem x_mk1_2 {x0 : Sl} {C : Addr} {wf : WM} (e : List.all [x0] isArg = true) (h : wf [x0, .val s, .val t] fun ns ts => P (.val (.ins C ns ts))) : makG C wf [s, t] P [x0] := ⟨e, h⟩
theorem x_mk1_3 {x0 : Sl} {C : Addr} {wf : WM} (e : List.all [x0] isArg = true) (h : wf [x0, .val s, .val t, .val u] fun ns ts => P (.val (.ins C ns ts))) : makG C wf [s, t, u] P [x0] := ⟨e, h⟩
theorem x_mk2_0 {x0 x1 : Sl} {C : Addr} {wf : WM} (e : List.all [x0, x1] isArg = true) (h : wf [x0, x1] fun ns ts => P (.val (.ins C ns ts))) : makG C wf [] P [x0, x1] := ⟨e, h⟩
theorem x_mk2_1 {x0 x1 : Sl} {C : Addr} {wf : WM} (e : List.all [x0, x1] isArg = true) (h : wf [x0, x1, .val s] fun ns ts => P (.val (.ins C ns ts))) : makG C wf [s] P [x0, x1] := ⟨e, h⟩
theorem x_mk2_2 {x0 x1 : Sl} {C : Addr} {wf : WM} (e : List.all [x0, x1] isArg = true) (h : wf [x0, x1, .val s, .val t] fun ns ts => P (.val (.ins C ns ts))) : makG C wf [s, t] P [x0, x1] := ⟨e, h⟩
theorem x_mk2_3 {x0 x1 : Sl} {C : Addr} {wf : WM} (e : List.all [x0, x1] isArg = true) (h : wf [x0, x1, .val s, .val t, .val u] fun ns ts => P (.val (.ins C ns ts))) : makG C wf [s, t, u] P [x0, x1] := ⟨e, h⟩
theorem x_mk3_0 {x0 x1 x2 : Sl} {C : Addr} {wf : WM} (e : List.all [x0, x1, x2] isArg = true) (h : wf [x0, x1, x2] fun ns ts => P (.val (.ins C ns ts))) : makG C wf [] P [x0, x1, x2] := ⟨e, h⟩
theorem x_mk3_1 {x0 x1 x2 : Sl} {C : Addr} {wf : WM} (e : List.all [x0, x1, x2] isArg = true) (h : wf [x0, x1, x2, .val s] fun ns ts => P (.val (.ins C ns ts))) : makG C wf [s] P [x0, x1, x2] := ⟨e, h⟩
theorem x_mk3_2 {x0 x1 x2 : Sl} {C : Addr} {wf : WM} (e : List.all [x0, x1, x2] isArg = true) (h : wf [x0, x1, x2, .val s, .val t] fun ns ts => P (.val (.ins C ns ts))) : makG C wf [s, t] P [x0, x1, x2] := ⟨e, h⟩
theorem x_mk3_3 {x0 x1 x2 : Sl} {C : Addr} {wf : WM} (e : List.all [x0, x1, x2] isArg = true) (h : wf [x0, x1, x2, .val s, .val t, .val u] fun ns ts => P (.val (.ins C ns ts))) : makG C wf [s, t, u] P [x0, x1, x2] := ⟨e, h⟩
theorem x_mk4_0 {x0 x1 x2 x3 : Sl} {C : Addr} {wf : WM} (e : List.all [x0, x1, x2, x3] isArg = true) (h : wf [x0, x1, x2, x3] fun ns ts => P (.val (.ins C ns ts))) : makG C wf [] P [x0, x1, x2, x3] := ⟨e, h⟩
theorem x_mk4_1 {x0 x1 x2 x3 : Sl} {C : Addr} {wf : WM} (e : List.all [x0, x1, x2, x3] isArg = true) (h : wf [x0, x1, x2, x3, .val s] fun ns ts => P (.val (.ins C ns ts))) : makG C wf [s] P [x0, x1, x2, x3] := ⟨e, h⟩
theorem x_mk4_2 {x0 x1 x2 x3 : Sl} {C : Addr} {wf : WM} (e : List.all [x0, x1, x2, x3] isArg = true) (h : wf [x0, x1, x2, x3, .val s, .val t] fun ns ts => P (.val (.ins C ns ts))) : makG C wf [s, t] P [x0, x1, x2, x3] := ⟨e, h⟩
theorem x_mk4_3 {x0 x1 x2 x3 : Sl} {C : Addr} {wf : WM} (e : List.all [x0, x1, x2, x3] isArg = true) (h : wf [x0, x1, x2, x3, .val s, .val t, .val u] fun ns ts => P (.val (.ins C ns ts))) : makG C wf [s, t, u] P [x0, x1, x2, x3] := ⟨e, h⟩
theorem x_mk5_0 {x0 x1 x2 x3 x4 : Sl} {C : Addr} {wf : WM} (e : List.all [x0, x1, x2, x3, x4] isArg = true) (h : wf [x0, x1, x2, x3, x4] fun ns ts => P (.val (.ins C ns ts))) : makG C wf [] P [x0, x1, x2, x3, x4] := ⟨e, h⟩
theorem x_mk5_1 {x0 x1 x2 x3 x4 : Sl} {C : Addr} {wf : WM} (e : List.all [x0, x1, x2, x3, x4] isArg = true) (h : wf [x0, x1, x2, x3, x4, .val s] fun ns ts => P (.val (.ins C ns ts))) : makG C wf [s] P [x0, x1, x2, x3, x4] := ⟨e, h⟩
theorem x_mk5_2 {x0 x1 x2 x3 x4 : Sl} {C : Addr} {wf : WM} (e : List.all [x0, x1, x2, x3, x4] isArg = true) (h : wf [x0, x1, x2, x3, x4, .val s, .val t] fun ns ts => P (.val (.ins C ns ts))) : makG C wf [s, t] P [x0, x1, x2, x3, x4] := ⟨e, h⟩
theorem x_mk5_3 {x0 x1 x2 x3 x4 : Sl} {C : Addr} {wf : WM} (e : List.all [x0, x1, x2, x3, x4] isArg = true) (h : wf [x0, x1, x2, x3, x4, .val s, .val t, .val u] fun ns ts => P (.val (.ins C ns ts))) : makG C wf [s, t, u] P [x0, x1, x2, x3, x4] := ⟨e, h⟩
theorem x_mk6_0 {x0 x1 x2 x3 x4 x5 : Sl} {C : Addr} {wf : WM} (e : List.all [x0, x1, x2, x3, x4, x5] isArg = true) (h : wf [x0, x1, x2, x3, x4, x5] fun ns ts => P (.val (.ins C ns ts))) : makG C wf [] P [x0, x1, x2, x3, x4, x5] := ⟨e, h⟩
theorem x_mk6_1 {x0 x1 x2 x3 x4 x5 : Sl} {C : Addr} {wf : WM} (e : List.all [x0, x1, x2, x3, x4, x5] isArg = true) (h : wf [x0, x1, x2, x3, x4, x5, .val s] fun ns ts => P (.val (.ins C ns ts))) : makG C wf [s] P [x0, x1, x2, x3, x4, x5] := ⟨e, h⟩
theorem x_mk6_2 {x0 x1 x2 x3 x4 x5 : Sl} {C : Addr} {wf : WM} (e : List.all [x0, x1, x2, x3, x4, x5] isArg = true) (h : wf [x0, x1, x2, x3, x4, x5, .val s, .val t] fun ns ts => P (.val (.ins C ns ts))) : makG C wf [s, t] P [x0, x1, x2, x3, x4, x5] := ⟨e, h⟩
theorem x_mk6_3 {x0 x1 x2 x3 x4 x5 : Sl} {C : Addr} {wf : WM} (e : List.all [x0, x1, x2, x3, x4, x5] isArg = true) (h : wf [x0, x1, x2, x3, x4, x5, .val s, .val t, .val u] fun ns ts => P (.val (.ins C ns ts))) : makG C wf [s, t, u] P [x0, x1, x2, x3, x4, x5] := ⟨e, h⟩
theorem x_mk7_0 {x0 x1 x2 x3 x4 x5 x6 : Sl} {C : Addr} {wf : WM} (e : List.all [x0, x1, x2, x3, x4, x5, x6] isArg = true) (h : wf [x0, x1, x2, x3, x4, x5, x6] fun ns ts => P (.val (.ins C ns ts))) : makG C wf [] P [x0, x1, x2, x3, x4, x5, x6] := ⟨e, h⟩
theorem x_mk7_1 {x0 x1 x2 x3 x4 x5 x6 : Sl} {C : Addr} {wf : WM} (e : List.all [x0, x1, x2, x3, x4, x5, x6] isArg = true) (h : wf [x0, x1, x2, x3, x4, x5, x6, .val s] fun ns ts => P (.val (.ins C ns ts))) : makG C wf [s] P [x0, x1, x2, x3, x4, x5, x6] := ⟨e, h⟩
theorem x_mk7_2 {x0 x1 x2 x3 x4 x5 x6 : Sl} {C : Addr} {wf : WM} (e : List.all [x0, x1, x2, x3, x4, x5, x6] isArg = true) (h : wf [x0, x1, x2, x3, x4, x5, x6, .val s, .val t] fun ns ts => P (.val (.ins C ns ts))) : makG C wf [s, t] P [x0, x1, x2, x3, x4, x5, x6] := ⟨e, h⟩
theorem x_mk7_3 {x0 x1 x2 x3 x4 x5 x6 : Sl} {C : Addr} {wf : WM} (e : List.all [x0, x1, x2, x3, x4, x5, x6] isArg = true) (h : wf [x0, x1, x2, x3, x4, x5, x6, .val s, .val t, .val u] fun ns ts => P (.val (.ins C ns ts))) : makG C wf [s, t, u] P [x0, x1, x2, x3, x4, x5, x6] := ⟨e, h⟩
theorem x_fld {C : Addr} {g : Str} (h : a sl fun x => fldG C g P x) : wFld C g a sl P := h
theorem x_fldI {C : Addr} {g : Str} {ns : List Str} (e : (ns.zip ts).lookup g = some t) (h : P (.val t)) : fldG C g P (.val (.ins C ns ts)) := ⟨ns, ts, t, rfl, e, h⟩
theorem x_isI {C : Addr} (h : a sl fun x => isIG C P x) : wIsI C a sl P := h
theorem x_isIt {C : Addr} {ns : List Str} (h : P (.val (.bl true))) : isIG C P (.val (.ins C ns ts)) := ⟨_, _, rfl, if_pos rfl, h⟩
theorem x_isI_n {C : Addr} (h : P (.val (.bl false))) : isIG C P (.val .non) := ⟨_, _, rfl, rfl, h⟩
theorem x_isI_b {C : Addr} {v : Bool} (h : P (.val (.bl false))) : isIG C P (.val (.bl v)) := ⟨_, _, rfl, rfl, h⟩
theorem x_isI_i {C : Addr} (h : P (.val (.bl false))) : isIG C P (.val (.int m)) := ⟨_, _, rfl, rfl, h⟩
theorem x_isI_s {C : Addr} {p : Str} (h : P (.val (.bl false))) : isIG C P (.val (.str p)) := ⟨_, _, rfl, rfl, h⟩
theorem x_isI_t {C : Addr} (h : P (.val (.bl false))) : isIG C P (.val (.tup ts)) := ⟨_, _, rfl, rfl, h⟩
theorem x_isI_l {C : Addr} (h : P (.val (.bl false))) : isIG C P (.val (.lst ts)) := ⟨_, _, rfl, rfl, h⟩
theorem x_isI_d {C : Addr} {ks : List Key} (h : P (.val (.bl false))) : isIG C P (.val (.dct ks ts)) := ⟨_, _, rfl, rfl, h⟩
theorem x_bl {v : Bool} (h : P (.val (.bl v))) : blG P (.val (.bl v)) := ⟨v, rfl, h⟩
theorem x_bln {v : Bool} (h : P (.val (.bl (!v)))) : blnG P (.val (.bl v)) := ⟨v, rfl, h⟩
theorem x_eqo {C : Addr} {wf : WF} (h : a sl fun x => b sl fun y => eqG C wf P x y) : wOwnEq C wf a b sl P := h
theorem x_eqoI {C : Addr} {wf : WF} {ns : List Str} (e : tyOk C u) (h : wf [.val (.ins C ns ts), .val u] fun z => blG P z) : eqG C wf P (.val (.ins C ns ts)) (.val u) := ⟨ns, ts, u, rfl, rfl, e, h⟩
theorem x_neo {C : Addr} {wf : WF} (h : a sl fun x => b sl fun y => neG C wf P x y) : wOwnNe C wf a b sl P := h
theorem x_neoI {C : Addr} {wf : WF} {ns : List Str} (e : tyOk C u) (h : wf [.val (.ins C ns ts), .val u] fun z => blnG P z) : neG C wf P (.val (.ins C ns ts)) (.val u) := ⟨ns, ts, u, rfl, rfl, e, h⟩
variable {fn : List Str → List T → Prop} {ns : List Str}
theorem x_nseq {p q : WN} (h : p (fun ns ts => q fn sl ns ts) sl ns ts) : wnSeq p q fn sl ns ts := h
theorem x_nnext (h : fn ns ts) : wnNext fn sl ns ts := h
theorem x_ndrop (h : a sl fun _ => fn ns ts) : wnDrop a fn sl ns ts := h
theorem x_nif {v : WT} {p q : WN} (h : v sl fun b => ifG (p fn sl ns ts) (q fn sl ns ts) b) : wnIf v p q fn sl ns ts := h
def nsG (g : Str) (fn : List Str → List T → Prop) (ns : List Str) (ts : List T) (x : Sl) : Prop := ∃ t, x = .val t ∧ g ∉ ns ∧ ns.length < 500 ∧ fn (ns ++ [g]) (ts ++ [t])
theorem x_nset {g : Str} (h : a sl fun x => nsG g fn ns ts x) : wnSet g a fn sl ns ts := h
theorem x_nsetv {g : Str} {ns2 : List Str} {ts2 : List T} (h1 : g ∉ ns) (h2 : ns.length < 500) (e1 : ns ++ [g] = ns2) (e2 : ts ++ [t] = ts2) (h : fn ns2 ts2) : nsG g fn ns ts (.val t) := ⟨t, rfl, h1, h2, by rw [e1, e2]; exact h⟩
theorem x_stn {r : List Sl} (e : sl.set i x = r) (h : f r) : stG f i x sl := by unfold stG; rw [e]; exact h
def srtG (P : Sl → Prop) (x : Sl) : Prop := ∃ ns : List Int, x.tree = some (.lst (ns.map T.int)) ∧ ns.length < 64 ∧ ∀ ms : List Int, ms.Pairwise (· < ·) → (∀ k : Int, k ∈ ms ↔ k ∈ ns) → P (.val (.lst (ms.map T.int)))
theorem x_srt (h : a sl fun x => srtG P x) : wSrt a sl P := h
def maxG (P : Sl → Prop) (xs : List Sl) : Prop := ∃ (x : Sl) (ns : List Int), xs = [x] ∧ oneOf x ns ∧ 0 < ns.length ∧ ∀ m, m ∈ ns → (∀ y, y ∈ ns → y ≤ m) → P (.val (.int m))
def minG (P : Sl → Prop) (xs : List Sl) : Prop := ∃ (x : Sl) (ns : List Int), xs = [x] ∧ oneOf x ns ∧ 0 < ns.length ∧ ∀ m, m ∈ ns → (∀ y, y ∈ ns → m ≤ y) → P (.val (.int m))
theorem x_maxA {e : WA} (h : e sl fun xs => maxG P xs) : wMaxA e sl P := h
theorem x_minA {e : WA} (h : e sl fun xs => minG P xs) : wMinA e sl P := h
def augMG (a : Int) (i : Nat) (f : List Sl → Prop) (sl : List Sl) (x : Sl) : Prop := ∃ b, x = .val (.int b) ∧ wide a b = true ∧ f (sl.set i (.val (.int (a * b))))
theorem x_augM (e : nth sl i = .val (.int m)) (h : a sl fun x => augMG m i f sl x) : wAugM i a ⟨f, rt, bk, ct⟩ sl := ⟨m, e, h⟩
theorem x_augMv (q : wide m n = true) (h : stG f i (.val (.int (m * n))) sl) : augMG m i f sl (.val (.int n)) := ⟨n, rfl, q, h⟩
def lrG1 (P : List T → Prop) (x : Sl) : Prop := ∃ n : Int, x = .val (.int n) ∧ 0 ≤ n ∧ n ≤ 100000 ∧ P (upTo 0 n.toNat)
theorem x_lr1 {q : List T → Prop} (h : a sl fun x => lrG1 q x) : wLstRg1 a sl q := h
theorem x_lr1v {q : List T → Prop} (h0 : 0 ≤ n) (h1 : n ≤ 100000) (h : q (upTo 0 n.toNat)) : lrG1 q (.val (.int n)) := ⟨n, rfl, h0, h1, h⟩
def lrG2 (P : List T → Prop) (x y : Sl) : Prop := ∃ m n : Int, x = .val (.int m) ∧ y = .val (.int n) ∧ 0 ≤ m ∧ m ≤ 100000 ∧ 0 ≤ n ∧ n ≤ 100000 ∧ P (upTo m (n - m).toNat)
theorem x_lr2 {q : List T → Prop} (h : a sl fun x => b sl fun y => lrG2 q x y) : wLstRg2 a b sl q := h
theorem x_lr2v {q : List T → Prop} (h0 : 0 ≤ m) (h1 : m ≤ 100000) (h2 : 0 ≤ n) (h3 : n ≤ 100000) (h : q (upTo m (n - m).toNat)) : lrG2 q (.val (.int m)) (.val (.int n)) := ⟨m, n, rfl, rfl, h0, h1, h2, h3, h⟩
def leG (C : Addr) (wf : WF) (P : Sl → Prop) (xs : List Sl) : Prop := ∃ ns ts, xs = [.val (.ins C ns ts)] ∧ wf xs fun z => ∃ n : Nat, z = .val (.int n) ∧ n < 2 ^ 63 ∧ P z
def nnG (P : Sl → Prop) (z : Sl) : Prop := ∃ n : Nat, z = .val (.int n) ∧ n < 2 ^ 63 ∧ P z
theorem x_lenI {C : Addr} {wf : WF} {e : WA} (h : e sl fun xs => leG C wf P xs) : wLenI C wf e sl P := h
theorem x_lenIv {C : Addr} {ns : List Str} {wf : WF} (h : wf [.val (.ins C ns ts)] fun z => nnG P z) : leG C wf P [.val (.ins C ns ts)] := ⟨ns, ts, rfl, h⟩
theorem x_nn {n : Nat} (hn : n < 2 ^ 63) (h : P (.val (.int (n : Nat)))) : nnG P (.val (.int (n : Nat))) := ⟨n, rfl, hn, h⟩
def stIG (C : Addr) (wf : WF) (P : Sl → Prop) (xs : List Sl) : Prop := ∃ ns ts, xs = [.val (.ins C ns ts)] ∧ wf xs fun z => ∃ r, z = .val (.str r) ∧ P z
def srG (P : Sl → Prop) (z : Sl) : Prop := ∃ r, z = .val (.str r) ∧ P z
theorem x_strI {C : Addr} {wf : WF} {e : WA} (h : e sl fun xs => stIG C wf P xs) : wStrI C wf e sl P := h
theorem x_strIv {C : Addr} {ns : List Str} {wf : WF} (h : wf [.val (.ins C ns ts)] fun z => srG P z) : stIG C wf P [.val (.ins C ns ts)] := ⟨ns, ts, rfl, h⟩
theorem x_sr {r : Str} (h : P (.val (.str r))) : srG P (.val (.str r)) := ⟨r, rfl, h⟩
def kdG (kvs : List (Str × T)) (P : Sl → Prop) (y : Sl) : Prop := ∃ z t, y = .val (.str z) ∧ kvs.lookup z = some t ∧ P (.val t)
theorem x_kd {kvs : List (Str × T)} (h : b sl fun y => kdG kvs P y) : wKD kvs b sl P := h
theorem x_kdv {kvs : List (Str × T)} {p : Str} (e : kvs.lookup p = some t) (h : P (.val t)) : kdG kvs P (.val (.str p)) := ⟨p, t, rfl, e, h⟩
theorem x_loop {c : WT} {p : WS} {k : Ks} {n : Nat} (h : c sl fun v => ifG (p ⟨wLoop c p k n, k.rt, k.nx, wLoop c p k n⟩ sl) (k.nx sl) v) : wLoop c p k (n + 1) sl := h
end
/-- a loop by what holds at its head -/
theorem for_inv {g : Tg} {b : WS} {k : Ks} (I : List T → List Sl → Prop) (hend : ∀ sl, I [] sl → k.nx sl) (hstep : ∀ (t : T) (r : List T) (sl : List Sl) (N : List Sl → Prop), I (t :: r) sl → (∀ s, I r s → N s) → ∃ sl', g.st t sl = some sl' ∧ b ⟨N, k.rt, k.nx, N⟩ sl') : ∀ ts sl, I ts sl → wForL g b k ts sl
  | [], sl, h => hend sl h
  | t :: r, sl, h => by
    obtain ⟨sl', e, q⟩ := hstep t r sl (fun s => wForL g b k r s) h fun s hs => for_inv I hend hstep r s hs
    exact ⟨sl', e, q⟩
end Tr


set_option Elab.async false
set_option linter.all false
set_option maxRecDepth 100000
set_option maxHeartbeats 0
namespace Tr
open PySem PySem.Spec PyProof.Rows L2
variable [Tabl]
/-! ### 21. further rules -/
section
variable {sl : List Sl} {P : Sl → Prop} {Q : Bool → Prop} {f bk ct : List Sl → Prop} {rt : Sl → Prop} {a b c : WE} {s t u z : T} {i j l : Nat} {m n : Int} {x y : Sl} {ts us : List T} {A B : Prop}
def augDG (a : Int) (i : Nat) (f : List Sl → Prop) (sl : List Sl) (x : Sl) : Prop := ∃ b, x = .val (.int b) ∧ divOk b = true ∧ f (sl.set i (.val (.int (a / b))))
theorem x_augD (e : nth sl i = .val (.int m)) (h : a sl fun x => augDG m i f sl x) : wAugD i a ⟨f, rt, bk, ct⟩ sl := ⟨m, e, h⟩
theorem x_augDv (q : divOk n = true) (h : stG f i (.val (.int (m / n))) sl) : augDG m i f sl (.val (.int n)) := ⟨n, rfl, q, h⟩
def dfG (g : Int → Int → Int) (P : Sl → Prop) (xs ys : List Sl) : Prop := ∃ (x : Sl) (ns : List Int) (i : Int), xs = [x] ∧ x.tree = some (.lst (ns.map T.int)) ∧ ys = [.val (.int i)] ∧ P (.val (.int (match ns with | [] => i | n :: r => r.foldl g n)))
def dfH (g : Int → Int → Int) (w : WA) (sl : List Sl) (P : Sl → Prop) (xs : List Sl) : Prop := w sl fun ys => dfG g P xs ys
theorem x_df {g : Int → Int → Int} {v w : WA} (h : v sl fun xs => dfH g w sl P xs) : wDf g v w sl P := h
theorem x_dfH {g : Int → Int → Int} {w : WA} {xs : List Sl} (h : w sl fun ys => dfG g P xs ys) : dfH g w sl P xs := h
def dfV (g : Int → Int → Int) (i : Int) : List Int → Int
  | [] => i
  | n :: r => r.foldl g n
def sortG (P : List T → Prop) (xs : List Sl) : Prop := ∃ x ts, xs = [x] ∧ x.tree = some (.lst ts) ∧ Srt ts ∧ P (sortT ts)
theorem x_sorted {v : WA} {q : List T → Prop} (h : v sl fun xs => sortG q xs) : wSorted v sl q := h
theorem x_sortv {q : List T → Prop} (hs : Srt ts) (h : q (sortT ts)) : sortG q [.val (.lst ts)] := ⟨_, ts, rfl, rfl, hs, h⟩
theorem x_appPop {e : WE} {l l' : Addr} {k : Ks} (h1 : nth sl i = .own l ts) (h2 : nth sl j = .own l' us) (hij : i ≠ j) (hz : ts.length < 1000000) (hz2 : us.length < 1000000) (h : e sl fun x => ∃ (n : Int) (c : Nat) (t : T), x = .val (.int n) ∧ seqIndex? n us.length = some c ∧ us[c]? = some t ∧ k.nx ((sl.set j (.own l' (us.eraseIdx c))).set i (.own l (ts ++ [t])))) : wAppPop i j e k sl := ⟨l, ts, l', us, h1, h2, hij, hz, hz2, h⟩
theorem x_max3 {q : Int} (h : P (.val (.int (max (max m n) q)))) : cbG max3T P [.val (.int m), .val (.int n), .val (.int q)] := ⟨_, _, rfl, rfl, h⟩
theorem x_min3 {q : Int} (h : P (.val (.int (min (min m n) q)))) : cbG min3T P [.val (.int m), .val (.int n), .val (.int q)] := ⟨_, _, rfl, rfl, h⟩
def lenSetG (P : Sl → Prop) (x : Sl) : Prop := ∃ ts ks, x.tree = some (.lst ts) ∧ keysT ts = some ks ∧ ks.length ≤ 4000 ∧ P (.val (.int ((SK.firsts ks).length : Nat)))
theorem x_notT (h : a sl fun x => truG (fun b => P (.val (.bl (!b)))) x) : wNotT a sl P := h
theorem x_lenSet (h : a sl fun x => lenSetG P x) : wLenSet a sl P := h
theorem x_neE (h : P (.val (.bl (!ts.isEmpty)))) : op2 neE P (.lst ts) (.lst []) := ⟨_, rfl, h⟩
theorem x_eqE (h : P (.val (.bl ts.isEmpty))) : op2 eqE P (.lst ts) (.lst []) := ⟨_, rfl, h⟩
theorem x_reprB {v : Bool} (h : P (.val (.str (if v = true then "True" else "False")))) : cbG reprT P [.val (.bl v)] := ⟨_, _, rfl, rfl, h⟩
theorem x_diceG {pre : List Sl → Prop} {i : Nat} {a : WA} (h : a sl fun xs => xs.all isArg = true ∧ pre xs ∧ stG f i .dice sl) : wDice pre a i ⟨f, rt, bk, ct⟩ sl := h
def parOOv (i j : Nat) (f : List Sl → Prop) (sl : List Sl) (ts us : List T) : Prop := ∀ l m, f ((sl.set i (.own l ts)).set j (.own m us))
def parOO1 (v : WL) (i j : Nat) (f : List Sl → Prop) (sl : List Sl) (ts : List T) : Prop := v sl fun us => parOOv i j f sl ts us
theorem x_parOO {w v : WL} (h : w sl fun ts => parOO1 v i j f sl ts) : wParOO i j w v ⟨f, rt, bk, ct⟩ sl := h
theorem x_parOO1 {v : WL} (h : v sl fun us => parOOv i j f sl ts us) : parOO1 v i j f sl ts := h
theorem x_parOOv (h : ∀ l m, stG (fun r => stG f j (.own m us) r) i (.own l ts) sl) : parOOv i j f sl ts us := h
def parOVv (i j : Nat) (f : List Sl → Prop) (sl : List Sl) (ts : List T) (x : Sl) : Prop := storable x = true ∧ ∀ l, f ((sl.set i (.own l ts)).set j x)
def parOV1 (a : WE) (i j : Nat) (f : List Sl → Prop) (sl : List Sl) (ts : List T) : Prop := a sl fun x => parOVv i j f sl ts x
theorem x_parOV {w : WL} (h : w sl fun ts => parOV1 a i j f sl ts) : wParOV i j w a ⟨f, rt, bk, ct⟩ sl := h
theorem x_parOV1 (h : a sl fun x => parOVv i j f sl ts x) : parOV1 a i j f sl ts := h
theorem x_parOVv (h : ∀ l, stG (fun r => stG f j (.val t) r) i (.own l ts) sl) : parOVv i j f sl ts (.val t) := ⟨rfl, h⟩
def parVOv (i j : Nat) (f : List Sl → Prop) (sl : List Sl) (x : Sl) (ts : List T) : Prop := ∀ l, f ((sl.set i x).set j (.own l ts))
def parVO1 (w : WL) (i j : Nat) (f : List Sl → Prop) (sl : List Sl) (x : Sl) : Prop := storable x = true ∧ w sl fun ts => parVOv i j f sl x ts
theorem x_parVO {w : WL} (h : a sl fun x => parVO1 w i j f sl x) : wParVO i j a w ⟨f, rt, bk, ct⟩ sl := h
theorem x_parVO1 {w : WL} (h : w sl fun ts => parVOv i j f sl (.val t) ts) : parVO1 w i j f sl (.val t) := ⟨rfl, h⟩
theorem x_parVOv (h : ∀ l, stG (fun r => stG f j (.own l ts) r) i x sl) : parVOv i j f sl x ts := h
/-! places and pieces of lists -/
theorem at_last {α : Type} (xs : List α) (x : α) : atI (xs ++ [x]) (-1) = some x := by
  unfold atI ixN
  rw [if_neg (by decide), if_pos (by rw [List.length_append]; show -((xs.length + 1 : Nat) : Int) ≤ -1; omega)]
  show (xs ++ [x])[(((xs ++ [x]).length : Int) + -1).toNat]? = _
  rw [show (((xs ++ [x]).length : Int) + -1).toNat = xs.length by rw [List.length_append]; show (((xs.length + 1 : Nat) : Int) + -1).toNat = _; omega]
  rw [List.getElem?_append_right (Nat.le_refl _), Nat.sub_self]
  rfl
theorem ix_last {xs : List T} {x : T} : ixT (.lst (xs ++ [x])) (.int (-1)) = some x := at_last xs x
theorem ixl {α : Type} {f : α → T} {xs : List α} {n : Nat} {x : α} (h : xs[n]? = some x) : ixT (.lst (xs.map f)) (.int (n : Int)) = some (f x) := atI_ok (by omega) (by
  rw [show ((n : Int)).toNat = n from rfl, List.getElem?_map, h]
  rfl)
theorem cut_take {α : Type} {xs : List α} {n : Nat} : cutT xs none (some (n : Int)) = xs.take n := by
  unfold cutT
  have e : HT.sIx xs.length xs.length (some (n : Int)) = min n xs.length := by
    show (if (n : Int) < 0 then ((n : Int) + (xs.length : Int)).toNat else min (n : Int).toNat xs.length) = _
    rw [if_neg (by omega)]
    rfl
  rw [e, HT.sIx_none, Nat.sub_zero, List.drop_zero]
  exact (List.take_eq_take_min ..).symm
theorem cut_drop {α : Type} {xs : List α} {n : Nat} : cutT xs (some (n : Int)) none = xs.drop n := by
  unfold cutT
  have e : HT.sIx xs.length 0 (some (n : Int)) = min n xs.length := by
    show (if (n : Int) < 0 then ((n : Int) + (xs.length : Int)).toNat else min (n : Int).toNat xs.length) = _
    rw [if_neg (by omega)]
    rfl
  rw [e, HT.sIx_none]
  rcases Nat.le_total n xs.length with h | h
  · rw [Nat.min_eq_left h]
    exact List.take_of_length_le (by rw [List.length_drop]; omega)
  · rw [Nat.min_eq_right h, Nat.sub_self, List.take_zero, List.drop_of_length_le h]
/-! ### 22. comprehensions, by functions and by relations -/
theorem upTo_map (a : Int) (n : Nat) : Tr.upTo a n = (List.range n).map fun i : Nat => T.int (a + (i : Int)) := rfl
end
end Tr


set_option Elab.async false
set_option linter.all false
set_option maxRecDepth 100000
set_option maxHeartbeats 0
namespace Tr
open PySem PySem.Spec PyProof.Rows L2
variable [Tabl]
/-! ### 23. steps of what may raise -/
section
variable {sl : List Sl} {P : Sl → Prop} {f bk ct : List Sl → Prop} {rt : Sl → Prop} {R : RXs} {r : RX} {a : WA} {o : WE} {A B : Prop} {C : Addr} {dts : List T}
theorem xx_seq {p q : WSX} (h : p R ⟨fun s => q R ⟨f, rt, bk, ct⟩ s, rt, bk, ct⟩ sl) : xSeq p q R ⟨f, rt, bk, ct⟩ sl := h
theorem xx_N (h : f sl) : xN R ⟨f, rt, bk, ct⟩ sl := h
theorem xx_L {w : WS} (h : w ⟨f, rt, bk, ct⟩ sl) : xL w R ⟨f, rt, bk, ct⟩ sl := h
theorem xx_E {w : WE} (h : w sl P) : xE w r sl P := h
theorem xx_if {t : WT} {p q : WSX} (h : t sl fun v => ifG (p R ⟨f, rt, bk, ct⟩ sl) (q R ⟨f, rt, bk, ct⟩ sl) v) : xIf t p q R ⟨f, rt, bk, ct⟩ sl := h
def retX (rt : Sl → Prop) (x : Sl) : Prop := rt x
theorem xx_ret {e : WEX} (h : e (fun c o => R c o sl) sl rt) : xRet e R ⟨f, rt, bk, ct⟩ sl := h
theorem xx_drop {e : WEX} (h : e (fun c o => R c o sl) sl fun _ => f sl) : xDrop e R ⟨f, rt, bk, ct⟩ sl := h
theorem xx_raise (h : R (.ref C) none sl) : xRaise C R ⟨f, rt, bk, ct⟩ sl := h
def xcG (wf : WFX) (dts : List T) (r : RX) (P : Sl → Prop) (xs : List Sl) : Prop := xs.all isArg = true ∧ wf r (xs ++ dts.map Sl.val) P
theorem xx_call {wf : WFX} (h : a sl fun xs => xcG wf dts r P xs) : xCall wf dts a r sl P := h
theorem xx_cv {wf : WFX} {xs : List Sl} (e : xs.all isArg = true) (h : wf r (xs ++ dts.map Sl.val) P) : xcG wf dts r P xs := ⟨e, h⟩
def xmG (wf : WMX) (dts : List T) (C : Addr) (r : RX) (P : Sl → Prop) (xs : List Sl) : Prop := xs.all isArg = true ∧ wf r (xs ++ dts.map Sl.val) fun ns ts => P (.val (.ins C ns ts))
theorem xx_make {wf : WMX} (h : a sl fun xs => xmG wf dts C r P xs) : xMake C dts wf a r sl P := h
theorem xx_mv {wf : WMX} {xs : List Sl} (e : xs.all isArg = true) (h : wf r (xs ++ dts.map Sl.val) fun ns ts => P (.val (.ins C ns ts))) : xmG wf dts C r P xs := ⟨e, h⟩
def xtG (m : Str) (wf : WFX) (dts : List T) (C : Addr) (a : WA) (sl : List Sl) (r : RX) (P : Sl → Prop) (x : Sl) : Prop := ∃ ns ts, x = .val (.ins C ns ts) ∧ m ∉ ns ∧ a sl fun xs => xs.all isArg = true ∧ wf r (x :: (xs ++ dts.map Sl.val)) P
def xuG (wf : WFX) (dts : List T) (r : RX) (P : Sl → Prop) (x : Sl) (xs : List Sl) : Prop := xs.all isArg = true ∧ wf r (x :: (xs ++ dts.map Sl.val)) P
theorem xx_meth {m : Str} {wf : WFX} (h : o sl fun x => xtG m wf dts C a sl r P x) : xMeth C m wf dts o a r sl P := h
theorem xx_mt {m : Str} {wf : WFX} {ns : List Str} {ts : List T} (hm : m ∉ ns) (h : a sl fun xs => xuG wf dts r P (.val (.ins C ns ts)) xs) : xtG m wf dts C a sl r P (.val (.ins C ns ts)) := ⟨_, _, rfl, hm, h⟩
theorem xx_uv {wf : WFX} {x : Sl} {xs : List Sl} (e : xs.all isArg = true) (h : wf r (x :: (xs ++ dts.map Sl.val)) P) : xuG wf dts r P x xs := ⟨e, h⟩
/-! __init__ -/
variable {q : List Str → List T → Prop} {ns : List Str} {ts : List T}
theorem xx_nseq {p s : WNX} (h : p r (fun ns' ts' => s r q sl ns' ts') sl ns ts) : xnSeq p s r q sl ns ts := h
theorem xx_nif {t : WT} {p s : WNX} (h : t sl fun v => ifG (p r q sl ns ts) (s r q sl ns ts) v) : xnIf t p s r q sl ns ts := h
theorem xx_nL {w : WN} (h : w q sl ns ts) : xnL w r q sl ns ts := h
theorem xx_nraise (h : r (.ref C) none) : xnRaise C r q sl ns ts := h
theorem xx_ndrop {e : WEX} (h : e r sl fun _ => q ns ts) : xnDrop e r q sl ns ts := h
/-! what a tried lambda tells -/
variable {em : Value → Value → Option Bool} {l : List (Value × Str)} {fine : Str} {cN : Str → Addr} {N : List Str}
def hdR (em : Value → Value → Option Bool) (P : Sl → Prop) (l : List (Value × Str))  : RX := fun cls _ => wHds em cls (fun t => P (.val (.str t))) l
theorem xx_met {w : WEX} (h : w (hdR em P l) sl fun _ => P (.val (.str fine))) : wMet em l fine w sl P := h
theorem xx_hit {x t : Str} (h : EmOk cN em N) (hx : x ∈ N) {o : XF} (p : P (.val (.str t))) : hdR em P ((.ref (cN x), t) :: l) (.ref (cN x)) o := ⟨true, by rw [h x hx x hx, decide_eq_true rfl], fun _ => p, fun z => (nomatch z)⟩
theorem xx_miss {x y t : Str} (h : EmOk cN em N) (hx : x ∈ N) (hy : y ∈ N) (hn : x ≠ y) {o : XF} (p : hdR em P l (.ref (cN y)) o) : hdR em P ((.ref (cN x), t) :: l) (.ref (cN y)) o := ⟨false, by rw [h y hy x hx, decide_eq_false (fun z => hn z.symm)], fun z => (nomatch z), fun _ => p⟩
/-! dice for one call -/
def odG (pre : List Sl → Prop) (wf : WF) (P : Sl → Prop) (xs : List Sl) : Prop := xs.all isArg = true ∧ pre xs ∧ wf [.dice] P
theorem xx_onDice {pre : List Sl → Prop} {wf : WF} (h : a sl fun xs => odG pre wf P xs) : wOnDice pre wf a sl P := h
theorem xx_is2 {g : Bool → Bool} {b c : Bool} (h : P (.val (.bl (g (b == c))))) : op2 (is2 g) P (.bl b) (.bl c) := ⟨_, rfl, h⟩
theorem xx_is2s {g : Bool → Bool} {b : Bool} (h : P (.val (.bl (g true)))) : op2 (is2 g) P (.bl b) (.bl b) := ⟨_, rfl, by cases b <;> exact h⟩
theorem xx_is2t {g : Bool → Bool} (h : P (.val (.bl (g false)))) : op2 (is2 g) P (.bl true) (.bl false) := ⟨_, rfl, h⟩
theorem xx_is2f {g : Bool → Bool} (h : P (.val (.bl (g false)))) : op2 (is2 g) P (.bl false) (.bl true) := ⟨_, rfl, h⟩
/-! loops over written lists -/
def clE (q : T → Prop) (x : Sl) : Prop := ∃ u, x = .val u ∧ q u
end
end Tr


set_option Elab.async false
set_option linter.all false
set_option maxRecDepth 100000
set_option maxHeartbeats 0
namespace Tr
open PySem PySem.Spec PyProof.Rows L2
variable [Tabl]
/-! defs that may raise, by what the head tells of them -/
section
variable {P : Program} {w : World} {K : PySem.W.Frag} {mg : Str → Option Value} {base : Heap} {x qual y m : Str} {params : Arguments} {body : List Stmt} {scope : Scope} {dvs : List V} {kws : List (Str × V)} {f C : Addr} {fd : FuncData} {ps : List Str} {k : Nat} {wf : WFX} {wm : WMX} {dts : List T}
abbrev AllGiven (x qual : Str) (params : Arguments) (body : List Stmt) (scope : Scope) (ps : List Str) : Prop :=
  ∀ (kV doc pm : Value) (an : Option Addr) (cdv ct : Value) (us : List Value), us.length = ps.length → bindArgs (PySem.W.fnOf x qual params body scope .none kV doc pm an cdv ct) ⟨us, []⟩ = pure (ps.zip us)
abbrev SomeLeft (x qual : Str) (params : Arguments) (body : List Stmt) (scope : Scope) (ps : List Str) (dvs : List V) (n j : Nat) : Prop :=
  ∀ (t : Addr) (kV doc pm : Value) (an : Option Addr) (cdv ct : Value) (us its : List Value), us.length = n → its.length = dvs.length →
    ∃ k, bindArgs (PySem.W.fnOf x qual params body scope (.ref t) kV doc pm an cdv ct) ⟨us, []⟩ = seqItems? (.ref t) >>= k ∧ k (some its.toArray) = pure (ps.zip (us ++ its.drop j))
theorem CallX.dfl (F : FunD K x qual params body scope dvs kws f fd) (G : FnOk P w K mg base (L2.CX P w) k f fd ps (spX K wf)) (hm : mg x = some (.ref f)) (n j : Nat) (hd : dvs ≠ []) (hn : n + (dvs.length - j) = ps.length) (h : SomeLeft x qual params body scope ps dvs n j) : CallX P w K mg base k x wf (dvs.drop j) := by
  obtain ⟨ds, h1, h2⟩ := F.binds1 n j hd hn h
  exact ⟨f, fd, ps, ds, G, hm, F.kp, h2, h1⟩
theorem MethX.of (F : FunD K x qual params body scope [] kws f fd) (G : FnOk P w K mg base (L2.CX P w) k f fd ps (spX K wf)) (M : Meth K C m f) (h : AllGiven x qual params body scope ps) : MethX P w K mg base k C m wf [] :=
  ⟨f, fd, ps, [], G, M, F.bindsN h, .nil⟩
theorem MethX.dfl (F : FunD K x qual params body scope dvs kws f fd) (G : FnOk P w K mg base (L2.CX P w) k f fd ps (spX K wf)) (M : Meth K C m f) (n j : Nat) (hd : dvs ≠ []) (hn : n + (dvs.length - j) = ps.length) (h : SomeLeft x qual params body scope ps dvs n j) : MethX P w K mg base k C m wf (dvs.drop j) := by
  obtain ⟨ds, h1, h2⟩ := F.binds1 n j hd hn h
  exact ⟨f, fd, ps, ds, G, M, h2, h1⟩
theorem MakeX.of (F : FunD K x qual params body scope [] kws f fd) (G : FnOk P w K mg base (L2.CX P w) k f fd ps (spNX K C wm)) (M : Mk K C f) (hm : mg y = some (.ref C)) (h : AllGiven x qual params body scope ps) : MakeX P w K mg base k y C [] wm :=
  ⟨f, fd, ps, [], [], M, G, hm, F.bindsN h, .nil, fun _ _ => .nil⟩
theorem MakeX.dfl (F : FunD K x qual params body scope dvs kws f fd) (G : FnOk P w K mg base (L2.CX P w) k f fd ps (spNX K C wm)) (M : Mk K C f) (hm : mg y = some (.ref C)) (n j : Nat) (hd : dvs ≠ []) (hn : n + (dvs.length - j) = ps.length) (h : SomeLeft x qual params body scope ps dvs n j)
    (hr : ∀ A H, RepAll K A H (dvs.drop j) dts) : MakeX P w K mg base k y C dts wm := by
  obtain ⟨ds, h1, h2⟩ := F.binds1 n j hd hn h
  exact ⟨f, fd, ps, ds, _, M, G, hm, h2, h1, hr⟩
end
end Tr


set_option Elab.async false
set_option linter.all false
set_option maxRecDepth 100000
set_option maxHeartbeats 0
namespace Tr
open PySem PySem.Spec PyProof.Rows L2
variable [Tabl]
/-! ### 24. steps of dicts -/
section
variable {sl : List Sl} {P : Sl → Prop} {f bk ct : List Sl → Prop} {rt : Sl → Prop} {a b c : WE} {v : WA} {w : WD} {q : List Key → List T → Prop} {ks : List Key} {ts : List T} {t u d : T} {k : Key} {i : Nat} {l : Addr} {neg : Bool} {Z : Str}
theorem x_wD (h : w sl fun ks ts => P (.val (.dct ks ts))) : wD w sl P := h
theorem x_DNew (h : q [] []) : wDNew sl q := h
theorem x_DCon (h : q ks ts) : wDCon ks ts sl q := h
def dcpG (q : List Key → List T → Prop) (xs : List Sl) : Prop := ∃ x ks ts, xs = [x] ∧ x.tree = some (.dct ks ts) ∧ q ks ts
theorem x_DCopy (h : v sl fun xs => dcpG q xs) : wDCopy v sl q := h
theorem x_dcpv (h : q ks ts) : dcpG q [.val (.dct ks ts)] := ⟨_, ks, ts, rfl, rfl, h⟩
theorem x_dcpo (h : q ks ts) : dcpG q [.ownd l ks ts] := ⟨_, ks, ts, rfl, rfl, h⟩
def odnG (i : Nat) (f : List Sl → Prop) (sl : List Sl) (ks : List Key) (ts : List T) : Prop := ∀ l, f (sl.set i (.ownd l ks ts))
theorem x_ownD (h : w sl fun ks ts => odnG i f sl ks ts) : wOwnD w i ⟨f, rt, bk, ct⟩ sl := h
theorem x_ownDv (h : ∀ l, stG f i (.ownd l ks ts) sl) : odnG i f sl ks ts := h
def dg1 (b : WE) (sl : List Sl) (P : Sl → Prop) (x : Sl) : Prop := ∃ ks ts, x.tree = some (.dct ks ts) ∧ b sl fun y => ∃ u k, y = .val u ∧ keyT u = some k ∧ P (.val ((getK ks ts k).getD .non))
def dg1k (ks : List Key) (ts : List T) (P : Sl → Prop) (y : Sl) : Prop := ∃ u k, y = .val u ∧ keyT u = some k ∧ P (.val ((getK ks ts k).getD .non))
theorem x_dg1 (h : a sl fun x => dg1 b sl P x) : wDGet1 a b sl P := h
theorem x_dg1v (h : b sl fun y => dg1k ks ts P y) : dg1 b sl P (.val (.dct ks ts)) := ⟨ks, ts, rfl, h⟩
theorem x_dg1o (h : b sl fun y => dg1k ks ts P y) : dg1 b sl P (.ownd l ks ts) := ⟨ks, ts, rfl, h⟩
theorem x_dg1s (h : P (.val ((getK ks ts (.inr Z)).getD .non))) : dg1k ks ts P (.val (.str Z)) := ⟨_, _, rfl, rfl, h⟩
theorem x_dg1i {n : Int} (h : P (.val ((getK ks ts (.inl n)).getD .non))) : dg1k ks ts P (.val (.int n)) := ⟨_, _, rfl, rfl, h⟩
def dg2 (b c : WE) (sl : List Sl) (P : Sl → Prop) (x : Sl) : Prop := ∃ ks ts, x.tree = some (.dct ks ts) ∧ b sl fun y => c sl fun z => ∃ u k d, y = .val u ∧ keyT u = some k ∧ z = .val d ∧ P (.val ((getK ks ts k).getD d))
def dg2b (c : WE) (sl : List Sl) (ks : List Key) (ts : List T) (P : Sl → Prop) (y : Sl) : Prop := c sl fun z => ∃ u k d, y = .val u ∧ keyT u = some k ∧ z = .val d ∧ P (.val ((getK ks ts k).getD d))
def dg2c (ks : List Key) (ts : List T) (k : Key) (P : Sl → Prop) (z : Sl) : Prop := ∃ d, z = .val d ∧ P (.val ((getK ks ts k).getD d))
theorem x_dg2 (h : a sl fun x => dg2 b c sl P x) : wDGet2 a b c sl P := h
theorem x_dg2v (h : b sl fun y => dg2b c sl ks ts P y) : dg2 b c sl P (.val (.dct ks ts)) := ⟨ks, ts, rfl, h⟩
theorem x_dg2o (h : b sl fun y => dg2b c sl ks ts P y) : dg2 b c sl P (.ownd l ks ts) := ⟨ks, ts, rfl, h⟩
/-- the reading of an expression in a def's ends grows with what is wished -/
def Mono (c : WE) : Prop := ∀ sl (P Q : Sl → Prop), (∀ x, P x → Q x) → c sl P → c sl Q
theorem x_dg2Cs {z : T} (h : P (.val ((getK ks ts (.inr Z)).getD z))) : dg2b (wC z) sl ks ts P (.val (.str Z)) := ⟨_, _, z, rfl, rfl, rfl, h⟩
theorem x_dg2Ci {z : T} {n : Int} (h : P (.val ((getK ks ts (.inl n)).getD z))) : dg2b (wC z) sl ks ts P (.val (.int n)) := ⟨_, _, z, rfl, rfl, rfl, h⟩
def diA (neg : Bool) (b : WE) (sl : List Sl) (P : Sl → Prop) (x : Sl) : Prop := b sl fun y => ∃ u k ks ts, x = .val u ∧ keyT u = some k ∧ y.tree = some (.dct ks ts) ∧ P (.val (.bl (if neg = true then !(getK ks ts k).isSome else (getK ks ts k).isSome)))
def diB (neg : Bool) (k : Key) (P : Sl → Prop) (y : Sl) : Prop := ∃ ks ts, y.tree = some (.dct ks ts) ∧ P (.val (.bl (if neg = true then !(getK ks ts k).isSome else (getK ks ts k).isSome)))
theorem x_dIn (h : a sl fun x => diA neg b sl P x) : wDIn neg a b sl P := h
theorem x_diV {j : Nat} {x : Sl} (e : nth sl j = x) (s : x.tree = some (.dct ks ts)) (q : keyT u = some k) (h : P (.val (.bl (if neg = true then !(getK ks ts k).isSome else (getK ks ts k).isSome)))) : diA neg (wVar j) sl P (.val u) := by
  refine ⟨fun z => ?_, u, k, ks, ts, rfl, q, by rw [e]; exact s, h⟩
  rw [z] at e
  rw [← e] at s
  cases s
theorem x_diVs {j : Nat} {x : Sl} (e : nth sl j = x) (s : x.tree = some (.dct ks ts)) (h : P (.val (.bl (if neg = true then !(getK ks ts (.inr Z)).isSome else (getK ks ts (.inr Z)).isSome)))) : diA neg (wVar j) sl P (.val (.str Z)) := x_diV e s rfl h
theorem x_diVi {j : Nat} {x : Sl} {n : Int} (e : nth sl j = x) (s : x.tree = some (.dct ks ts)) (h : P (.val (.bl (if neg = true then !(getK ks ts (.inl n)).isSome else (getK ks ts (.inl n)).isSome)))) : diA neg (wVar j) sl P (.val (.int n)) := x_diV e s rfl h
def revG (P : Sl → Prop) (x : Sl) : Prop := ∃ s z, x.tree = some s ∧ revT s = some z ∧ P (.val z)
theorem x_rev (h : a sl fun x => revG P x) : wRev a sl P := h
theorem x_revt (h : P (.val (.tup ts.reverse))) : revG P (.val (.tup ts)) := ⟨_, _, rfl, rfl, h⟩
theorem x_revl (h : P (.val (.lst ts.reverse))) : revG P (.val (.lst ts)) := ⟨_, _, rfl, rfl, h⟩
theorem x_lstn {q : List T → Prop} {xs : List Sl} {us : List T} (e : trees xs = some us) (hl : us.length ≤ 1000000) (h : q us) : lstG q xs := ⟨us, e, hl, h⟩
/-! what a tried lambda tells, its handlers any expressions -/
def anyW (w : WE) (P : Sl → Prop) : Prop := ∀ n, w (List.replicate n .any) P
theorem x_any {w : WE} (h : ∀ n, w (List.replicate n .any) P) : anyW w P := h
def hdW (em : Value → Value → Option Bool) (P : Sl → Prop) (l : List (Value × WE)) : RX := fun cls _ => wHdsW em cls (fun w => anyW w P) l
theorem x_metW {em : Value → Value → Option Bool} {l : List (Value × WE)} {wf : WE} {wb : WEX} (h : wb (hdW em P l) sl fun _ => anyW wf P) : wMetW em l wf wb sl P := h
theorem x_hitW {em : Value → Value → Option Bool} {l : List (Value × WE)} {w : WE} {cN : Str → Addr} {N : List Str} {x : Str} (h : EmOk cN em N) (hx : x ∈ N) {o : XF} (p : anyW w P) : hdW em P ((.ref (cN x), w) :: l) (.ref (cN x)) o := ⟨true, by rw [h x hx x hx, decide_eq_true rfl], fun _ => p, fun z => (nomatch z)⟩
theorem x_missW {em : Value → Value → Option Bool} {l : List (Value × WE)} {w : WE} {cN : Str → Addr} {N : List Str} {x y : Str} (h : EmOk cN em N) (hx : x ∈ N) (hy : y ∈ N) (hn : x ≠ y) {o : XF} (p : hdW em P l (.ref (cN y)) o) : hdW em P ((.ref (cN x), w) :: l) (.ref (cN y)) o := ⟨false, by rw [h y hy x hx, decide_eq_false (fun z => hn z.symm)], fun z => (nomatch z), fun _ => p⟩
def dputG (l : Addr) (ks : List Key) (ts : List T) (i : Nat) (f : List Sl → Prop) (sl : List Sl) (t : T) (y : Sl) : Prop := ∃ u n, y = .val u ∧ keyT u = some n ∧ f (sl.set i (.ownd l (putKs n ks) (putVs n t ks ts)))
def dputH (ix : WE) (i : Nat) (f : List Sl → Prop) (sl : List Sl) (x : Sl) : Prop := ∃ t, x = .val t ∧ ∃ l ks ts, nth sl i = .ownd l ks ts ∧ ks.length < 1000000 ∧ ix sl fun y => ∃ u n, y = .val u ∧ keyT u = some n ∧ f (sl.set i (.ownd l (putKs n ks) (putVs n t ks ts)))
theorem x_dput (h : b sl fun x => dputH a i f sl x) : wDPut i a b ⟨f, rt, bk, ct⟩ sl := h
theorem x_dputH (e : nth sl i = .ownd l ks ts) (hl : ks.length < 1000000) (h : a sl fun y => dputG l ks ts i f sl t y) : dputH a i f sl (.val t) := ⟨t, rfl, l, ks, ts, e, hl, h⟩
theorem x_dputs (h : stG f i (.ownd l (putKs (.inr Z) ks) (putVs (.inr Z) t ks ts)) sl) : dputG l ks ts i f sl t (.val (.str Z)) := ⟨_, _, rfl, rfl, h⟩
theorem x_dputi {n : Int} (h : stG f i (.ownd l (putKs (.inl n) ks) (putVs (.inl n) t ks ts)) sl) : dputG l ks ts i f sl t (.val (.int n)) := ⟨_, _, rfl, rfl, h⟩
end
end Tr


set_option Elab.async false
set_option linter.all false
set_option maxRecDepth 100000
set_option maxHeartbeats 0
/-! dict comprehensions -/
namespace Tr
open PySem PySem.Spec PyProof.Rows L2
variable [Tabl]
section
variable {X : Cx} {K : PySem.W.Frag}
def wDColl (g : Tg) (wt : WT) (wk wv : WE) (sl : List Sl) (P : List Key → List T → Prop) : List T → List Key → List T → Prop
  | [], ks, us => P ks us
  | t :: r, ks, us => ∃ sl', g.st t sl = some sl' ∧ wt sl' fun b => if b = true then wk sl' fun y => wv sl' fun z => ∃ u n d, y = .val u ∧ keyT u = some n ∧ z = .val d ∧ wDColl g wt wk wv sl P r (putKs n ks) (putVs n d ks us) else wDColl g wt wk wv sl P r ks us
/-- {k: v for .. in .. if ..} -/
def wDc (wi : WI) (g : Tg) (wt : WT) (wk wv : WE) (vs : List Nat) : WD := fun sl P => wi sl fun ts => ts.length ≤ 100000 ∧ wDColl g wt wk wv (wipeS sl vs) P ts [] []
theorem put_le {k : Key} {ks : List Key} : (putKs k ks).length ≤ ks.length + 1 := by
  unfold putKs
  split
  · omega
  · rw [List.length_append]; exact Nat.le_refl _
theorem dc_all {J : It} {n : Nat} {g : TG} {tt : TT} {tk tv : TE} {vs : List Nat} {σ : L2.St} {H1 : Hp} {D : Addr} {Qd : Hp → Prop} (Pv : Nat → Hp → Prop) (h0 : Pv 0 (upd H1 D (.dK []))) (hgo : ∀ i H, i < n → Pv i H → J.go i H) (hst : ∀ H, Pv n H → J.stop n H)
    (hs : ∀ i x H H', i < n → Pv i H → J.yld i H x H' → g x (L2.wipe σ vs) H' fun σ2 H2 => L2.wipe σ2 vs = L2.wipe σ vs ∧ tt σ2 H2 fun b H3 =>
      if b = true then tk σ2 H3 fun y H4 => tv σ2 H4 fun z H5 => ∃ kvs k, y = kV k ∧ H5 D = some (.dK kvs) ∧ kvs.length < sizeLine ∧ Pv (i + 1) (upd H5 D (.dK (putK kvs k z))) else Pv (i + 1) H3) (hd : ∀ H, Pv n H → Qd H) :
    ∃ W : Nat → Nat → Hp → Prop, (∃ m, W 0 m (upd H1 D (.dK []))) ∧ ∀ i m H, W i m H →
      (J.stop i H ∧ Qd H) ∨ (J.go i H ∧ ∃ Nx : Hp → Prop, (∀ H', Nx H' → ∃ m', m' < m ∧ W (i + 1) m' H') ∧ ∀ x H', J.yld i H x H' → g x (L2.wipe σ vs) H' fun σ2 H2 => L2.wipe σ2 vs = L2.wipe σ vs ∧ tt σ2 H2 fun b H3 =>
        if b = true then tk σ2 H3 fun y H4 => tv σ2 H4 fun z H5 => ∃ kvs k, y = kV k ∧ H5 D = some (.dK kvs) ∧ kvs.length < sizeLine ∧ Nx (upd H5 D (.dK (putK kvs k z))) else Nx H3) := by
  refine ⟨fun i m H => m + i = n ∧ Pv i H, ⟨n, rfl, h0⟩, ?_⟩
  rintro i m H ⟨e, p⟩
  cases m with
  | zero =>
    have e : i = n := by omega
    subst e
    exact .inl ⟨hst H p, hd H p⟩
  | succ m => exact .inr ⟨hgo i H (by omega) p, Pv (i + 1), fun H' p' => ⟨m, Nat.lt_succ_self m, by omega, p'⟩, fun x H' y => hs i x H H' (by omega) p y⟩
theorem dc_core {F : Fx} {D A : Avoid} {H1 : Hp} {σ : L2.St} {sl : List Sl} {J : It} {ts : List T} {P : List Key → List T → Prop} {Q : Hp → Prop} {g : Tg} {wt : WT} {tt : TT} {wk wv : WE} {vx : List Nat} {p : Addr} (st : ST K tt wt) (hin : ∀ i ∈ g.is, i ∈ vx) (S1 : Sta K F D A H1 σ sl) (io : ItOk K A H1 J ts)
    (hlen : ts.length ≤ 100000) (hco : wDColl g wt wk wv (wipeS sl vx) P ts [] []) (hp : H1 p = none) (q : ∀ H' ks vs us, Beh D H1 H' → p ∉ A → H' p = some (.dK (ks.zip vs)) → ks.length = vs.length → RepAll K (p :: A) H' vs us → P ks us → Q H') :
    ∃ W : Nat → Nat → Hp → Prop, (∃ m, W 0 m (upd H1 p (.dK []))) ∧ ∀ i m H, W i m H →
      (J.stop i H ∧ Q H) ∨ (J.go i H ∧ ∃ Nx : Hp → Prop, (∀ H', Nx H' → ∃ m', m' < m ∧ W (i + 1) m' H') ∧ ∀ x H', J.yld i H x H' → g.g K x (L2.wipe σ vx) H' fun σ2 H2 => L2.wipe σ2 vx = L2.wipe σ vx ∧ tt σ2 H2 fun b H3 =>
        if b = true then eOf K wk σ2 H3 fun y H4 => eOf K wv σ2 H4 fun z H5 => ∃ kvs k, y = kV k ∧ H5 p = some (.dK kvs) ∧ kvs.length < sizeLine ∧ Nx (upd H5 p (.dK (putK kvs k z))) else Nx H3) := by
  have hpA : p ∉ A := fresh_notin S1.alive hp
  obtain ⟨G, L, g1, g0, g2⟩ := io.held
  let F' : Fx := { F with G := G ++ F.G, L := L ++ F.L }
  have lkF : ∀ r ∈ F'.L, r.1 ∉ A ∧ H1 r.1 = some (.frz r.2.1 (.dK r.2.2)) := fun r hr => (List.mem_append.mp hr).elim (g0 r) (S1.lk r)
  have ghF : ∀ r ∈ F'.G, Rep K A H1 r.1 r.2 := fun r hr => by
    rcases List.mem_append.mp hr with z | z
    · exact g1 r z
    · exact S1.gh r z
  have SF : Sta K F' D A H1 σ sl := ⟨S1.dice, S1.dA, S1.sub, S1.alive, S1.base, S1.dbase, S1.dsub, S1.keep, S1.tabs, S1.ext, S1.slots, S1.dist, ghF, lkF⟩
  have SG0 : Sta K F' D (p :: A) (upd H1 p (.dK [])) (L2.wipe σ vx) (wipeS sl vx) := (SF.grow hp).wipe _
  have hpD : p ∉ D := fun z => hpA (S1.dA p z)
  have no0 : ∀ (j : Nat) (l' : Addr) (ts : OwnT), (wipeS sl vx)[j]? = some (Sl.ob l' ts) → l' ≠ p := fun j l' us e z => by
    obtain ⟨v, _, ok⟩ := (SF.wipe vx).get e (fun z => nomatch z)
    obtain ⟨_, hl, _⟩ := ok
    exact hpA (by rw [← z]; exact hl)
  refine dc_all (n := ts.length) (fun i H' => ∃ ks us vs, Sta K F' D (p :: A) H' (L2.wipe σ vx) (wipeS sl vx) ∧ Beh D H1 H' ∧ H' p = some (.dK (ks.zip vs)) ∧ ks.length = vs.length ∧ RepAll K (p :: A) H' vs us ∧ ks.length ≤ i ∧ wDColl g wt wk wv (wipeS sl vx) P (ts.drop i) ks us)
    ⟨[], [], [], SG0, ⟨fun a o n e => by rw [upd_ne (ne_of_none e hp)]; exact e, fun _ _ => Keep.new hp⟩, upd_same, rfl, .nil, Nat.zero_le _, hco⟩ (fun i H' hlt hP => ?_) (fun H' hP => ?_) (fun i x H' H2 hlt hP hy => ?_) (fun H' hP => ?_)
  · obtain ⟨ks, us, vs, Sx, _⟩ := hP
    exact (((g2 (p :: A) H' (fun r hr => Sx.gh r (List.mem_append.mpr (.inl hr))) fun r hr => Sx.lk r (List.mem_append.mpr (.inl hr))).turn Sx.alive).1 hlt).1
  · obtain ⟨ks, us, vs, Sx, _⟩ := hP
    exact ((g2 (p :: A) H' (fun r hr => Sx.gh r (List.mem_append.mpr (.inl hr))) fun r hr => Sx.lk r (List.mem_append.mpr (.inl hr))).turn Sx.alive).2 (Nat.le_refl _)
  · obtain ⟨ks, us, vs, Sx, hk, hpv, hkl, ra, hal, hw'⟩ := hP
    obtain ⟨ex2, t, et, rt⟩ := (((g2 (p :: A) H' (fun r hr => Sx.gh r (List.mem_append.mpr (.inl hr))) fun r hr => Sx.lk r (List.mem_append.mpr (.inl hr))).turn Sx.alive).1 hlt).2 x H2 hy
    have bx := Beh.of_ext Sx ex2
    replace hk : Beh D H1 H2 := hk.trans bx
    replace hpv := bx.ext p _ hpD hpv
    replace ra := ra.mono (ext_da Sx.dA bx.ext)
    replace Sx := Sx.beh bx
    rw [List.drop_eq_getElem_cons hlt] at hw'
    have et' : ts[i] = t := by rw [List.getElem?_eq_getElem hlt] at et; exact Option.some.inj et
    rw [et'] at hw'
    obtain ⟨sl', e1, hw2⟩ := hw'
    refine sg g Sx rt e1 fun σ2 S2 c => ⟨?_, st F' D (p :: A) H2 σ2 sl' _ _ S2 hw2 fun b H3 b3 hx3 => ?_⟩
    · have h1 : L2.wipe σ2 vx = L2.wipe (L2.wipe σ vx) vx := wipe_eq c.len fun j hj => c.out j (fun z => hj (hin j z))
      have h2 : L2.wipe (L2.wipe σ vx) vx = L2.wipe σ vx := wipe_eq (L2.wipe_length _ _) fun j hj => wipe_get_out hj
      rw [h1, h2]
    · have S3 := S2.beh b3
      have hpv3 := b3.ext p _ hpD hpv
      have ra3 := ra.mono (ext_da S2.dA b3.ext)
      have S3' : Sta K F' D (p :: A) H3 (L2.wipe σ vx) (wipeS sl vx) := Sx.beh b3
      have hk3 : Beh D H1 H3 := hk.trans b3
      cases b with
      | false =>
        rw [if_neg Bool.false_ne_true] at hx3 ⊢
        exact ⟨ks, us, vs, S3', hk3, hpv3, hkl, ra3, by omega, hx3⟩
      | true =>
        rw [if_pos rfl] at hx3 ⊢
        refine ⟨F', D, p :: A, sl', _, S3, hx3, fun y H4 yy b4 ok4 hz => ?_⟩
        have S4 := S3.beh b4
        refine ⟨F', D, p :: A, sl', _, S4, hz, fun z H5 zz b5 ok5 hz2 => ?_⟩
        obtain ⟨u, n, d, rfl, ek, rfl, hz3⟩ := hz2
        have hpv5 := b5.ext p _ hpD (b4.ext p _ hpD hpv3)
        have ra5 := (ra3.mono (ext_da S3.dA b4.ext)).mono (ext_da S4.dA b5.ext)
        have S5' := (S3'.beh b4).beh b5
        have hpm : p ∈ p :: A := List.mem_cons_self
        refine ⟨ks.zip vs, n, keyT_ok (ok4.val) ek, hpv5, Tr.sz_lt (by rw [List.length_zip]; omega), putKs n ks, putVs n d ks us, putVs n z ks vs, S5'.write hpm (fun z => hpA (S1.sub p z)) hpD no0 (fun φ z => by rw [hpv5] at z; cases z), ⟨fun a o nn e => ?_, fun d hd => (((hk3.trans b4).trans b5).dice d hd).trans (Keep.upd (fun z => hpD (by rw [← z]; exact hd)) fun φ z => by rw [hpv5] at z; cases z)⟩, by rw [upd_same, put_zip hkl], put_length hkl, (put_repA ok5.val ra5).mono (Ext.mut hpm), by have := put_le (k := n) (ks := ks); omega, hz3⟩
        rw [upd_ne (ne_of_none e hp)]
        exact b5.ext a o nn (b4.ext a o nn (hk3.ext a o nn e))
  · obtain ⟨ks, us, vs, Sx, hk, hpv, hkl, ra, hal, hw'⟩ := hP
    rw [List.drop_length] at hw'
    exact q H' ks vs us hk hpA hpv hkl ra hw'
theorem sd_dc {wi : WI} {g : Tg} {wt : WT} {tt : TT} {wk wv : WE} {vx : List Nat} (st : ST K tt wt) (hin : ∀ i ∈ g.is, i ∈ vx) : SD K (tDc (iOf K wi) (g.g K) tt (eOf K wk) (eOf K wv) vx) (wDc wi g wt wk wv vx) := fun F D A H σ sl P Q S hw q =>
  ⟨F, D, A, sl, _, S, hw, fun J H1 ts b1 io hx p hp => dc_core st hin (S.beh b1) io hx.1 hx.2 hp fun H' ks vs us hk hpA hpv hkl ra hP => q p H' ks vs us (b1.trans hk) (fresh_back S.dice b1 hp) hpA hpv hkl ra hP⟩
theorem gd_dc {kx vx tg iter : Expr} {ifs : List Expr} {scope : Scope} {own : List (Str × Nat)} {pos : Pos} {wi : WI} {g : Tg} {wt : WT} {tt : TT} {wk wv : WE} (hc : X.calm = true) (hN : X.N.Nodup) (hi : GI X tg iter wi) (ok : BlkOk X.N X.env.scope scope own)
    (hg : ∀ (s : Shared) (H : Hp) (C : Addr) (cl : List (Str × Addr)) (fp : List Addr), PG (X.blk s H scope (compEnvC scope cl C X.env) fp) tg (g.g X.K)) (ht : ∀ (s : Shared) (H : Hp) (C : Addr) (cl : List (Str × Addr)) (fp : List Addr), PTs (X.blk s H scope (compEnvC scope cl C X.env) fp) ifs tt) (st : ST X.K tt wt)
    (hk : ∀ (s : Shared) (H : Hp) (C : Addr) (cl : List (Str × Addr)) (fp : List Addr), PE (X.blk s H scope (compEnvC scope cl C X.env) fp) kx (eOf X.K wk)) (hv : ∀ (s : Shared) (H : Hp) (C : Addr) (cl : List (Str × Addr)) (fp : List Addr), PE (X.blk s H scope (compEnvC scope cl C X.env) fp) vx (eOf X.K wv))
    (hin : ∀ i ∈ g.is, i ∈ own.map (·.2)) (hs : ∀ x, foldedSetIterable iter X.env x = pure x) :
    GD X (.DictComp kx vx [⟨tg, iter, ifs, 0⟩] scope pos) (wDc wi g wt wk wv (own.map (·.2))) := gd_of (pe_dc hc hN hi ok hg ht hk hv hs) (sd_dc st hin)
end
end Tr


set_option Elab.async false
set_option linter.all false
set_option maxRecDepth 100000
set_option maxHeartbeats 0
/-! a dict is walked: it stands locked meanwhile -/
namespace Tr
open PySem PySem.Spec PyProof.Rows L2
variable [Tabl]
section
variable {K : PySem.W.Frag} {F : Fx} {D A A0 D0 : Avoid} {H H' : Hp} {σ : L2.St} {sl : List Sl} {d : Addr} {kvs : List (Key × V)} {od : Obj}
/-- the dict kvs, locked or not -/
def Sw (kvs : List (Key × V)) (o : HO) : Prop := o = .dK kvs ∨ ∃ u, o = .frz u (.dK kvs)
structure SwAt (H H' : Hp) (d : Addr) (kvs : List (Key × V)) : Prop where
  out : ∀ a, a ≠ d → H' a = H a
  was : ∃ o, H d = some o ∧ Sw kvs o
  now : ∃ o, H' d = some o ∧ Sw kvs o
theorem SwAt.keep (h : SwAt H H' d kvs) {a : Addr} {o : HO} (e : H a = some o) (n : ¬ Sw kvs o) : H' a = some o := by
  by_cases z : a = d
  · obtain ⟨u, hu, su⟩ := h.was
    rw [z, hu] at e
    cases e
    exact absurd su n
  · rw [h.out a z]; exact e
theorem sw_tup {xs : List V} : ¬ Sw kvs (.tup xs) := fun z => by rcases z with z | ⟨u, z⟩ <;> cases z
theorem sw_lst {xs : List V} : ¬ Sw kvs (.lst xs) := fun z => by rcases z with z | ⟨u, z⟩ <;> cases z
theorem sw_scr {o : Obj} {xs : List V} : ¬ Sw kvs (.frz o (.lst xs)) := fun z => by
  rcases z with z | ⟨u, z⟩
  · cases z
  · injection z with z1 z2
    cases z2
theorem sw_ins {C dx : Addr} {fs : List (Str × V)} : ¬ Sw kvs (.ins C dx fs) := fun z => by rcases z with z | ⟨u, z⟩ <;> cases z
theorem sw_own {x : Addr} : ¬ Sw kvs (.own x) := fun z => by rcases z with z | ⟨u, z⟩ <;> cases z
theorem sw_xd {fs : List (Str × V)} : ¬ Sw kvs (.xd fs) := fun z => by rcases z with z | ⟨u, z⟩ <;> cases z
theorem sw_tbl {ps : Array Value} : ¬ Sw kvs (.tbl ps) := fun z => by rcases z with z | ⟨u, z⟩ <;> cases z
theorem sw_code {c : Addr} {q : Str} : ¬ Sw kvs (LamX.CodeO c q) := fun z => by
  unfold LamX.CodeO at z
  rcases z with z | ⟨u, z⟩ <;> cases z
theorem SwAt.dict (h : SwAt H H' d kvs) {a : Addr} {ws : List (Key × V)} (e : H a = some (.dK ws) ∨ ∃ o, H a = some (.frz o (.dK ws))) : H' a = some (.dK ws) ∨ ∃ o, H' a = some (.frz o (.dK ws)) := by
  by_cases z : a = d
  · obtain ⟨u, hu, su⟩ := h.was
    have ew : ws = kvs := by
      rw [z, hu] at e
      rcases e with e | ⟨o, e⟩ <;> have e := Option.some.inj e <;> subst e
      · rcases su with s | ⟨v, s⟩
        · injection s
        · cases s
      · rcases su with s | ⟨v, s⟩
        · cases s
        · injection s with s1 s2
          injection s2
    obtain ⟨u2, hu2, su2⟩ := h.now
    rw [z, ew]
    rcases su2 with s | ⟨v, s⟩
    · exact .inl (by rw [hu2, s])
    · exact .inr ⟨v, by rw [hu2, s]⟩
  · rw [h.out a z]; exact e
mutual
theorem Rep.sw (h : SwAt H H' d kvs) : ∀ {v : V} {t : T}, Rep K A H v t → Rep K A H' v t
  | _, _, .non => .non
  | _, _, .bl b => .bl b
  | _, _, .int i => .int i
  | _, _, .str x => .str x
  | _, _, .ty n => .ty n
  | _, _, .tup n e r => .tup n (h.keep e sw_tup) (RepAll.sw h r)
  | _, _, .tupK e r => .tupK e (RepAll.sw h r)
  | _, _, .lst n e r => .lst n (h.keep e sw_lst) (RepAll.sw h r)
  | _, _, .scr n e r => .scr n (h.keep e sw_scr) (RepAll.sw h r)
  | _, _, .scrK e r => .scrK e (RepAll.sw h r)
  | _, _, .dct n e l r => .dct n (h.dict e) l (RepAll.sw h r)
  | _, _, .ins n m e k l r => .ins n m (h.keep e sw_ins) (h.keep k sw_own) l (RepAll.sw h r)
  | _, _, .fn a => .fn a
  | _, _, .exc n e r => .exc n (h.keep e sw_xd) (Rep.sw h r)
theorem RepAll.sw (h : SwAt H H' d kvs) : ∀ {vs : List V} {ts : List T}, RepAll K A H vs ts → RepAll K A H' vs ts
  | _, _, .nil => .nil
  | _, _, .cons q r => .cons (Rep.sw h q) (RepAll.sw h r)
end
theorem DiceAt.sw (h : SwAt H H' d kvs) {a : Addr} (q : DiceAt H a) : DiceAt H' a := by
  obtain ⟨x, y, z, e⟩ := q
  exact ⟨x, y, z, h.keep e sw_lst⟩
theorem tabS_sw (h : SwAt H H' d kvs) {p : Addr} {q : Str} (t : LamX.TabS H p q) : LamX.TabS H' p q := by
  obtain ⟨ps, h1, h2, h3⟩ := t
  refine ⟨ps, h.keep h1 sw_tbl, h2, fun pos cv hc => ?_⟩
  obtain ⟨c, e1, e2⟩ := h3 pos cv hc
  exact ⟨c, e1, h.keep e2 sw_code⟩
theorem Slots.sw (h : SwAt H H' d kvs) (hA : d ∉ A) (s : Slots K D A0 A H σ sl) : Slots K D A0 A H' σ sl := by
  refine Paired.imp (fun o x q => ?_) s
  rcases q with q | ⟨v, q1, q2⟩
  · exact .inl q
  · refine .inr ⟨v, q1, ?_⟩
    cases x with
    | any => trivial
    | val t => exact Rep.sw h q2
    | dice =>
      obtain ⟨e, g1, g2, g3⟩ := q2
      exact ⟨e, g1, g2, g3.sw h⟩
    | ob l ts =>
      obtain ⟨g1, g2, g3, g4, g5⟩ := q2
      exact ⟨g1, g2, g3, g4, g5.map (fun u q => by rw [h.out l (fun z => hA (by rw [← z]; exact g2))]; exact q) fun _ _ r => RepAll.sw h r⟩
theorem SwAt.symm (h : SwAt H H' d kvs) : SwAt H' H d kvs := ⟨fun a n => (h.out a n).symm, h.now, h.was⟩
def lockH (H0 : Hp) (d : Addr) (o : HO) : Hp := if (H0 d).isSome = true then upd H0 d o else H0
def Fx.lock (F : Fx) (d : Addr) (od : Obj) (kvs : List (Key × V)) : Fx := { F with H0 := lockH F.H0 d (.frz od (.dK kvs)), L := (d, od, kvs) :: F.L }
theorem lock_sw (hd : H d = some (.dK kvs)) : SwAt H (upd H d (.frz od (.dK kvs))) d kvs := ⟨fun a n => upd_ne n, ⟨_, hd, .inl rfl⟩, ⟨_, upd_same, .inr ⟨_, rfl⟩⟩⟩
theorem unlock_sw (hd : H d = some (.frz od (.dK kvs))) : SwAt H (upd H d (.dK kvs)) d kvs := ⟨fun a n => upd_ne n, ⟨_, hd, .inr ⟨_, rfl⟩⟩, ⟨_, upd_same, .inl rfl⟩⟩
/-- the base: as it was, or the dict locked there too -/
theorem base_sw {H0 : Hp} (e : H0 d = none ∨ H0 d = some (.dK kvs)) : (H0 d = none ∧ lockH H0 d (.frz od (.dK kvs)) = H0) ∨ SwAt H0 (lockH H0 d (.frz od (.dK kvs))) d kvs := by
  unfold lockH
  rcases e with e | e
  · left; rw [e]; exact ⟨rfl, rfl⟩
  · right; rw [if_pos (by rw [e]; rfl)]; exact lock_sw e
theorem lock_none {H0 : Hp} {a : Addr} {o : HO} (h : H0 a = none) : lockH H0 d o a = none := by
  unfold lockH
  split
  · rename_i q
    rw [upd_ne (fun z => by rw [← z, h] at q; cases q)]; exact h
  · exact h
theorem Keep.swl {H0 H0' : Hp} {e : Addr} (b : (H0' = H0) ∨ SwAt H0' H0 d kvs) (h : SwAt H H' d kvs) (k : Keep H0 H e) : Keep H0' H' e := by
  refine ⟨fun q => ?_, fun q m t => ?_⟩
  · refine (k.1 ?_).sw h
    rcases b with b | b
    · rw [← b]; exact q
    · exact q.sw b
  · refine tabS_sw h (k.2 q m ?_)
    rcases b with b | b
    · rw [← b]; exact t
    · exact tabS_sw b t
theorem Sta.lock (S : Sta K F D A H σ sl) (hd : H d = some (.dK kvs)) (hA : d ∉ A) : (F.H0 d = none ∨ F.H0 d = some (.dK kvs)) ∧ Sta K (F.lock d od kvs) D A (upd H d (.frz od (.dK kvs))) σ sl := by
  have h := lock_sw (od := od) hd
  have hD0 : d ∉ F.D0 := fun z => hA (S.dA d (S.dsub d z))
  have e0 : F.H0 d = none ∨ F.H0 d = some (.dK kvs) := by
    cases e : F.H0 d with
    | none => exact .inl rfl
    | some o => right; rw [← S.ext d o hD0 e]; exact hd
  have b := base_sw (od := od) e0
  refine ⟨e0, fun e he => ?_, S.dA, S.sub, fun a ha => ?_, fun a ha => ?_, fun e he => ?_, S.dsub, fun e he => ?_, fun p hp => ?_, fun a o n q => ?_, S.slots.sw h hA, S.dist, fun p hp => (S.gh p hp).sw h, fun p hp => ?_⟩
  · rcases S.dice e he with z | ⟨q, m, t⟩
    · exact .inl (z.sw h)
    · exact .inr ⟨q, m, tabS_sw h t⟩
  · rw [upd_ne (fun z => hA (by rw [← z]; exact ha))]; exact S.alive a ha
  · exact (S.base a ha).imp id lock_none
  · exact (S.dbase e he).imp id lock_none
  · exact (S.keep e he).swl (b.imp (fun z => z.2) fun z => z.symm) h
  · refine ⟨(S.tabs p hp).1, ?_⟩
    rcases b with b | b
    · show LamX.TabS (lockH F.H0 d _) _ _
      rw [b.2]; exact (S.tabs p hp).2
    · exact tabS_sw b (S.tabs p hp).2
  · by_cases z : a = d
    · rw [z, upd_same]
      have q : lockH F.H0 d (.frz od (.dK kvs)) a = some o := q
      rw [z] at q
      rcases b with b | b
      · rw [b.2, b.1] at q; cases q
      · unfold lockH at q
        rcases e0 with e | e
        · rw [if_neg (by rw [e]; exact Bool.false_ne_true), e] at q; cases q
        · rw [if_pos (by rw [e]; rfl), upd_same] at q
          exact q
    · rw [upd_ne z]
      refine S.ext a o n ?_
      have q : lockH F.H0 d (.frz od (.dK kvs)) a = some o := q
      unfold lockH at q
      split at q
      · rwa [upd_ne z] at q
      · exact q
  · rcases List.mem_cons.mp hp with z | z
    · rw [z]; exact ⟨hA, upd_same⟩
    · have := S.lk p z
      refine ⟨this.1, ?_⟩
      rw [upd_ne (fun z => by rw [z, hd] at this; cases this.2)]; exact this.2
end
end Tr


set_option Elab.async false
set_option linter.all false
set_option maxRecDepth 100000
set_option maxHeartbeats 0
/-! comprehensions and loops over a dict's keys, items -/
namespace Tr
open PySem PySem.Spec PyProof.Rows L2
variable [Tabl]
section
variable {K : PySem.W.Frag} {F : Fx} {D A A0 D0 : Avoid} {H H' : Hp} {σ : L2.St} {sl : List Sl} {d : Addr} {kvs : List (Key × V)} {od : Obj}
abbrev WPD := List Sl → List Key → List T → Prop
/-- an expression whose value is a dict that is nobody's own, told ahead -/
def PathD (K : PySem.W.Frag) (tp : TE) (wp : WPD) : Prop := ∀ F D A H σ sl ks ts, Sta K F D A H σ sl → wp sl ks ts → ∃ (d : Addr) (vs : List V), d ∉ A ∧ (H d = some (.dK (ks.zip vs)) ∨ ∃ o, H d = some (.frz o (.dK (ks.zip vs)))) ∧ ks.length = vs.length ∧ RepAll K A H vs ts ∧
  (∀ Q : VK, Q (.ref d) H → tp σ H Q) ∧ ∀ (o' : HO) (Q : VK), H d = some (.dK (ks.zip vs)) → Q (.ref d) (upd H d o') → tp σ (upd H d o') Q
def wpVar (i : Nat) : WPD := fun sl ks ts => nth sl i = .val (.dct ks ts)
theorem Rep.dctI {v : V} {ks : List Key} {ts : List T} (r : Rep K A H v (.dct ks ts)) : ∃ (d : Addr) (vs : List V), v = .ref d ∧ d ∉ A ∧ (H d = some (.dK (ks.zip vs)) ∨ ∃ o, H d = some (.frz o (.dK (ks.zip vs)))) ∧ ks.length = vs.length ∧ RepAll K A H vs ts := by
  cases r with
  | @dct a _ vs _ n e l r => exact ⟨a, vs, rfl, n, e, l, r⟩
theorem pd_var {i : Nat} : PathD K (tVar i) (wpVar i) := fun F D A H σ sl ks ts S hw => by
  have hn : sl[i]? = some (.val (.dct ks ts)) := nth_val hw (fun z => nomatch z)
  obtain ⟨v, hv, ok⟩ := S.get hn (fun z => nomatch z)
  obtain ⟨d, vs, rfl, n, e, l, r⟩ := Rep.dctI ok
  exact ⟨d, vs, n, e, l, r, fun Q q => ⟨_, hv, q⟩, fun o' Q _ q => ⟨_, hv, q⟩⟩
/-- what is walked: the items, the keys -/
structure DIt (K : PySem.W.Frag) (wi : TE → TI) (mk : List Key → List T → List T) where
  J : Addr → Obj → List (Key × V) → It
  ti : ∀ {tp : TE} {σ : L2.St} {H : Hp} {R : It → Hp → Prop} {d : Addr} {o : Obj} {kvs : List (Key × V)}, (∀ Q : VK, Q (.ref d) H → tp σ H Q) → H d = some (.frz o (.dK kvs)) → R (J d o kvs) H → wi tp σ H R
  ok : ∀ {A : Avoid} {H : Hp} {d : Addr} {o : Obj} {ks : List Key} {vs : List V} {ts : List T}, d ∉ A → H d = some (.frz o (.dK (ks.zip vs))) → ks.length = vs.length → RepAll K A H vs ts → ItOk K A H (J d o (ks.zip vs)) (mk ks ts)
def mkI (ks : List Key) (ts : List T) : List T := List.zipWith (fun k t => T.tup [keyW k, t]) ks ts
def mkK (ks : List Key) (_ : List T) : List T := ks.map keyW
def di_items : DIt K iItems mkI where
  J := Iti
  ti := fun t hd r => t _ ⟨_, _, _, rfl, hd, r⟩
  ok := fun n hd l r => .itm n hd l r
def di_keys : DIt K iKeys mkK where
  J := Itk
  ti := fun t hd r => t _ ⟨_, _, rfl, .inl ⟨_, hd, r⟩⟩
  ok := fun n hd l _ => .key n hd l
/-- the one reading, or the other -/
def tOrE (a b : TE) : TE := fun σ H Q => a σ H Q ∨ b σ H Q
theorem pe_or {X : Cx} {e : Expr} {a b : TE} (h1 : PE X e a) (h2 : PE X e b) : PE X e (tOrE a b) := ⟨fun pins s σ H Q I h => h.elim (h1.run pins s σ H Q I) (h2.run pins s σ H Q I)⟩
def tOrS (a b : TS) : TS := fun D σ H => a D σ H ∨ b D σ H
/-- behind the lock all is as if it had not been -/
theorem beh_unlock {Hl H' : Hp} (hd : H d = some (.dK kvs)) (hD : d ∉ D) (e : Hl = upd H d (.frz od (.dK kvs))) (b : Beh D Hl H') : H' d = some (.frz od (.dK kvs)) ∧ Beh D H (upd H' d (.dK kvs)) := by
  have hl : Hl d = some (.frz od (.dK kvs)) := by rw [e]; exact upd_same
  have hf := b.ext d _ hD hl
  refine ⟨hf, fun a o n q => ?_, fun c hc => ?_⟩
  · by_cases z : a = d
    · rw [z, upd_same]
      rw [z, hd] at q
      exact q
    · rw [upd_ne z]
      exact b.ext a o n (by rw [e, upd_ne z]; exact q)
  · have k := b.dice c hc
    rw [e] at k
    exact k.swl (.inr (lock_sw hd)) (unlock_sw hf)
def wLcI (wp : WPD) (mk : List Key → List T → List T) (g : Tg) (wt : WT) (we : WE) (vs : List Nat) : WL := fun sl P => ∃ ks ts, wp sl ks ts ∧ (mk ks ts).length ≤ 100000 ∧ wColl g wt we (wipeS sl vs) P (mk ks ts) []
theorem sl_lcI {wi : TE → TI} {mk : List Key → List T → List T} {tp : TE} {wp : WPD} {g : Tg} {wt : WT} {tt : TT} {we : WE} {vx : List Nat} (di : DIt K wi mk) (pd : PathD K tp wp) (st : ST K tt wt) (hin : ∀ i ∈ g.is, i ∈ vx) :
    SL K (tOrE (tLockE (tLc (wi tp) (g.g K) tt (eOf K we) vx)) (tLc (wi tp) (g.g K) tt (eOf K we) vx)) (wLcI wp mk g wt we vx) := fun F D A H σ sl P Q S hw q => by
  obtain ⟨ks, ts, hp, hlen, hco⟩ := hw
  obtain ⟨d, vs, hA, hd, hl, ra, t1, t2⟩ := pd F D A H σ sl ks ts S hp
  rcases hd with hd | ⟨o, hd⟩
  · refine .inl ⟨d, _, hd, trivial, fun od => ?_⟩
    obtain ⟨e0, SL⟩ := S.lock (od := od) hd hA
    refine di.ti (fun Q q => t2 _ Q hd q) upd_same fun p hp => lc_core st hin SL (di.ok hA upd_same hl (RepAll.sw (lock_sw hd) ra)) hlen hco hp fun H' ws acc hk hpA hpv ra' hP => ?_
    have hD : d ∉ D := fun z => hA (S.dA d z)
    obtain ⟨hf, be⟩ := beh_unlock hd hD rfl hk
    have npd : p ≠ d := fun z => by rw [z, upd_same] at hp; cases hp
    refine ⟨hf, q p _ ws acc be (by rw [← hp, upd_ne npd]) hpA (by rw [upd_ne npd]; exact hpv) (RepAll.sw (unlock_sw hf) ra') hP⟩
  · exact .inr (di.ti t1 hd fun p hp => lc_core st hin S (di.ok hA hd hl ra) hlen hco hp fun H' ws acc hk hpA hpv ra' hP => q p H' ws acc hk hp hpA hpv ra' hP)
def wDcI (wp : WPD) (mk : List Key → List T → List T) (g : Tg) (wt : WT) (wk wv : WE) (vs : List Nat) : WD := fun sl P => ∃ ks ts, wp sl ks ts ∧ (mk ks ts).length ≤ 100000 ∧ wDColl g wt wk wv (wipeS sl vs) P (mk ks ts) [] []
def wForI (wp : WPD) (mk : List Key → List T → List T) (g : Tg) (b : WS) : WS := fun k sl => ∃ ks ts, wp sl ks ts ∧ wForL g b k (mk ks ts) sl
theorem SlOk.sw {v : V} {x : Sl} (h : SwAt H H' d kvs) (hA : d ∉ A) (q2 : SlOk K D A0 A H v x) : SlOk K D A0 A H' v x := by
  cases x with
  | any => trivial
  | val t => exact Rep.sw h q2
  | dice =>
    obtain ⟨e, g1, g2, g3⟩ := q2
    exact ⟨e, g1, g2, g3.sw h⟩
  | ob l ts =>
    obtain ⟨g1, g2, g3, g4, g5⟩ := q2
    exact ⟨g1, g2, g3, g4, g5.map (fun u q => by rw [h.out l (fun z => hA (by rw [← z]; exact g2))]; exact q) fun _ _ r => RepAll.sw h r⟩
end
section
variable {X : Cx}
theorem gl_lcI {elt tg iter : Expr} {ifs : List Expr} {scope : Scope} {own : List (Str × Nat)} {pos : Pos} {wi : TE → TI} {mk : List Key → List T → List T} {tp : TE} {wp : WPD} {g : Tg} {wt : WT} {tt : TT} {we : WE} (hc : X.calm = true) (hN : X.N.Nodup) (di : DIt X.K wi mk) (pd : PathD X.K tp wp) (hi : PI X tg iter (wi tp)) (ok : BlkOk X.N X.env.scope scope own)
    (hg : ∀ (s : Shared) (H : Hp) (C : Addr) (cl : List (Str × Addr)) (fp : List Addr), PG (X.blk s H scope (compEnvC scope cl C X.env) fp) tg (g.g X.K)) (ht : ∀ (s : Shared) (H : Hp) (C : Addr) (cl : List (Str × Addr)) (fp : List Addr), PTs (X.blk s H scope (compEnvC scope cl C X.env) fp) ifs tt) (st : ST X.K tt wt)
    (he : ∀ (s : Shared) (H : Hp) (C : Addr) (cl : List (Str × Addr)) (fp : List Addr), PE (X.blk s H scope (compEnvC scope cl C X.env) fp) elt (eOf X.K we)) (hin : ∀ i ∈ g.is, i ∈ own.map (·.2)) (hs : ∀ x, foldedSetIterable iter X.env x = pure x) :
    GL X (.ListComp elt [⟨tg, iter, ifs, 0⟩] scope pos) (wLcI wp mk g wt we (own.map (·.2))) :=
  gl_of (pe_or (pe_lock (pe_lc hc hN hi ok hg ht he hs)) (pe_lc hc hN hi ok hg ht he hs)) (sl_lcI di pd st hin)
end
end Tr
namespace Tr
open PySem PySem.Spec PyProof.Rows L2
variable [Tabl]
/-- a field of an instance that a slot holds -/
def wpFld (C : Addr) (f : Str) (i : Nat) : WPD := fun sl ks ts => ∃ ns us, nth sl i = .val (.ins C ns us) ∧ (ns.zip us).lookup f = some (.dct ks ts)
end Tr


set_option Elab.async false
set_option linter.all false
set_option maxRecDepth 100000
set_option maxHeartbeats 0
/-! sorted(d) of a dict: its keys -/
namespace L2
open PySem PySem.Spec PyProof.Rows PySem.W
def keyD : Key → PyData
  | .inl i => .int i
  | .inr z => .str z
def rSortK : List V → Hp → VK → Prop := fun vs H Q => ∃ (d : Addr) (kvs : List (Key × V)), vs = [V.ref d] ∧ Rd H d (.dK kvs) ∧ AllAlike ((kvs.map (·.1)).map keyD) ∧ Sortable ((kvs.map (·.1)).map keyD) ∧
  ∀ p, H p = none → Q (.ref p) (upd H p (.lst (((kvs.map (·.1)).mergeSort (dataLe false keyD)).map kV)))
theorem key_reads {h : Heap} {k : Key} {u : Value} (r : RelV (kV k) u) : ∃ as, Reads h u (keyD k) as := by
  cases k with
  | inl i => obtain ⟨t, rfl⟩ := show ∃ t, u = Value.int i t from r; exact ⟨_, .int i t⟩
  | inr z => obtain ⟨t, rfl⟩ := show ∃ t, u = Value.str z t from r; exact ⟨_, .str z t⟩
theorem keys_vals : ∀ {us : List Value} {ks : List Key}, EachIs (fun u k => RelV (kV k) u) us ks → Vals (ks.map kV) us
  | _, _, .nil => .nil
  | _, _, .cons h r => .cons h (keys_vals r)
theorem keys_each {us : List Value} {ks : List Key} (hl : us.length = ks.length) (h : ∀ (i : Nat) (u : Value) (k : Key), us[i]? = some u → ks[i]? = some k → RelV (kV k) u) : EachIs (fun u k => RelV (kV k) u) us ks := by
  induction us generalizing ks with
  | nil => cases ks with
    | nil => exact .nil
    | cons k ks => cases hl
  | cons u us ih => cases ks with
    | nil => cases hl
    | cons k ks => exact .cons (h 0 u k rfl rfl) (ih (by simpa using hl) fun i v q e1 e2 => h (i + 1) v q (by simpa using e1) (by simpa using e2))
section
variable {X : Cx}
theorem cr_sortK (hc : X.calm = true) (hu : X.A.units + 64 < cLine) : CallR X (.builtin "sorted") rSortK := by
  intro pins s σ H vs us Q I r h
  obtain ⟨d, kvs, rfl, hd, hal, hk, q⟩ := h
  rw [Vals.ref1 r]
  obtain ⟨hz, lo, rs, kv, hdo⟩ := dk_rd I.hok hd
  obtain ⟨es, ep, raw, hsz, hes⟩ := hdo.raw
  have hlk : kvs.length = rs.length := Paired.length kv
  have hh : X.A.in1.handled = none := I.ok.hd hc
  have hn : es.size ≤ sizeLine := by rw [hsz, ← hlk]; exact hz
  refine Calls.call_function_entry kind_sorted plain_sorted entry_sorted (args_sorted1 _) (show wpAny _ _ (Builtin.«sorted» _) _ _ _ from ?_)
  unfold Builtin.«sorted»
  refine wpAny_bind (m := checkCount "sorted" 1 1 _) (wpAny_pure (wpAny_bind (kdu_collect (KdlSrc.rawDict lo) hh raw hn fun h' tk acc keeps items => ?_)))
  have hacc : acc.toList.length = es.size := by rw [Array.length_toList]; exact items.1
  have each : EachIs (fun u k => RelV (kV k) u) acc.toList (kvs.map (·.1)) := keys_each (by rw [hacc, hsz, List.length_map, hlk]) fun i u k e1 e2 => by
    obtain ⟨hi, eu⟩ := items.2 i u (by rw [← Array.getElem?_toList]; exact e1)
    obtain ⟨p, e3, rfl⟩ := List.getElem?_eq_some_iff.mp e2 |> fun ⟨a, b⟩ => (⟨kvs[i]'(by rw [List.length_map] at a; exact a), List.getElem?_eq_getElem _, by rw [← b, List.getElem_map]⟩ : ∃ p, kvs[i]? = some p ∧ p.1 = k)
    obtain ⟨v, hv, rv⟩ := paired_get kv e3
    have hk2 := (hes i hi v.1 v.2 (by rw [hv])).1
    rw [eu, rv.1]
    exact relV_key (show keyIs v.1 es[i].key = true from hk2)
  refine wpAny_bind (wpAny_newList ?_ (by rw [hacc]; exact hn))
  have hD : (h'.push { cls := .type "list", data := .seq acc.toList.toArray }).get? h'.objs.size = some (seqObj "list" acc.toList.toArray 0) := Heap.get?_push_size _ rfl
  refine wpAny_bind (wpAny_holding (wpAny_mono (list_sort_data (n := 0) (s := { s with heap := h'.push { cls := .type "list", data := .seq acc.toList.toArray }, toks := tk }) (R := fun u k => RelV (kV k) u) (enc := keyD) hD each (each_imp (fun u k rk => ?_) each) hal hk (by rw [List.length_map]; exact hz) (fun k hk' => ?_) fun out ol eo => ?_) (fun _ s' x => wpAny_pure ⟨_, rfl, x⟩) fun _ _ e => e))
  · obtain ⟨as, ra⟩ := key_reads (h := h'.push { cls := .type "list", data := .seq acc.toList.toArray }) rk
    refine ⟨as, ra, fun z => ?_⟩
    cases k with
    | inl i => cases ra; cases z
    | inr x => cases ra; cases z
  · have : (keyD k).depth = 0 := by cases k <;> rfl
    rw [this]
    show X.A.in1.units + 1 + 0 < cLine
    have : X.A.in1.units = X.A.units + 1 := rfl
    omega
  · have J : Inv X pins σ H { s with heap := h', toks := tk } := I.kept keeps
    obtain ⟨ep2, he2⟩ := sortedHeap_at (out := out.toArray) hD
    refine ⟨.ref _, upd H h'.objs.size (.lst (((kvs.map (·.1)).mergeSort (dataLe false keyD)).map kV)), J.laid (a := h'.objs.size) (t' := tk) (fun b o e => ?_) (Nat.le_refl _) ⟨?_, out, ep2, keys_vals eo, ?_⟩, rfl, q _ (J.hok.fresh (Nat.le_refl _))⟩
    · have e1 := Heap.get?_push_of_some ({ cls := .type "list", data := .seq acc.toList.toArray } : Obj) e
      rw [sortedHeap_old (Nat.ne_of_lt (Heap.lt_size e)) (Heap.lt_size e1)]
      exact e1
    · rw [List.length_map, List.length_mergeSort, List.length_map]
      exact hz
    · exact he2
end
end L2


set_option Elab.async false
set_option linter.all false
set_option maxRecDepth 100000
set_option maxHeartbeats 0
/-! lists of a dict: sorted(d), list(d), list(d.items()); x.pop(k, d) -/
namespace Tr
open PySem PySem.Spec PyProof.Rows L2
variable [Tabl]
section
variable {K : PySem.W.Frag} {A : Avoid} {H : Hp}
theorem keys_rep : ∀ ks : List Key, RepAll K A H (ks.map kV) (ks.map keyW)
  | [] => .nil
  | k :: ks => .cons (keyW_rep k) (keys_rep ks)
theorem zip_fst {α β : Type} : ∀ {ks : List α} {vs : List β}, ks.length = vs.length → (ks.zip vs).map (·.1) = ks
  | [], [], _ => rfl
  | k :: ks, v :: vs, h => by rw [List.zip_cons_cons, List.map_cons, zip_fst (by simpa using h)]
structure SrtK (ks : List Key) : Prop where
  alike : PySem.W.AllAlike (ks.map keyD)
  able : PySem.W.Sortable (ks.map keyD)
def sortK (ks : List Key) : List Key := ks.mergeSort (PySem.W.dataLe false keyD)
def wSortK (a : WA) : WL := fun sl P => a sl fun xs => ∃ x ks ts, xs = [x] ∧ x.tree = some (.dct ks ts) ∧ SrtK ks ∧ P ((sortK ks).map keyW)
def wListK (a : WA) : WL := fun sl P => a sl fun xs => ∃ x ks ts, xs = [x] ∧ x.tree = some (.dct ks ts) ∧ P (ks.map keyW)
def wItemsL (a : WE) : WL := fun sl P => a sl fun x => ∃ ks ts, x.tree = some (.dct ks ts) ∧ P (mkI ks ts)
theorem SlOk.dctR {D A0 : Avoid} {v : V} {x : Sl} {ks : List Key} {ts : List T} (ok : SlOk K D A0 A H v x) (e : x.tree = some (.dct ks ts)) : ∃ (d : Addr) (vs : List V), v = .ref d ∧ Rd H d (.dK (ks.zip vs)) ∧ ks.length = vs.length ∧ RepAll K A H vs ts := by
  cases x with
  | any => cases e
  | dice => cases e
  | val t =>
    cases e
    obtain ⟨d, vs, rfl, _, h, l, r⟩ := Rep.dctI ok
    exact ⟨d, vs, rfl, h, l, r⟩
  | ob l o =>
    cases o with
    | lst us => cases e
    | dct ks' us =>
      cases e
      obtain ⟨rfl, _, _, _, vs, h, hl, r⟩ := ok
      exact ⟨l, vs, rfl, .inl h, hl, r⟩
end
section
variable {X : Cx}
theorem gl_sortK {j : Nat} {x : Str} {e : Expr} {a : WA} {p pos : Pos} (hc : X.calm = true) (hr : Room j X.A) (hg : Gl X x) (hm : X.mg x = none) (hv : bootBuiltins x = some (.builtin "sorted")) (ha : GA X [e] a)
    (hn : x ≠ "__name__" := by decide) (hdb : (x == ("__debug__" : Str)) = false := by decide) (he : starEach [e] X.env = (false, eval e X.env) :: starEach [] X.env := by rfl) (hpl : (backTo pos (starEach [] X.env)).any (·.1) = false := by rfl) :
    GL X (.Call (.Name x p) [e] [] pos) (wSortK a) := gl_of (pe_callB (cr_sortK hc hr.units) hg hm hv ha hn hdb he hpl) fun F D A H σ sl P Q S hw q =>
  ⟨F, D, A, sl, _, S, hw, fun vs H1 xs b1 oks hx => by
    obtain ⟨x, ks, ts, rfl, e1, hs, hp⟩ := hx
    have S1 := S.beh b1
    cases oks with
    | cons ok r =>
      cases r
      obtain ⟨d, us, rfl, hd, l, ra⟩ := ok.dctR e1
      have ek := zip_fst l
      refine ⟨d, _, rfl, hd, by rw [ek]; exact hs.alike, by rw [ek]; exact hs.able, fun p hpn => ?_⟩
      rw [ek]
      exact q p _ ((sortK ks).map kV) _ (b1.trans (Beh.of_ext S1 (Ext.new hpn))) (fresh_back S.dice b1 hpn) (fresh_notin S1.alive hpn) upd_same (keys_rep _) hp⟩
theorem gl_listK {x : Str} {e : Expr} {a : WA} {p pos : Pos} (hc : X.calm = true) (hg : Gl X x) (hm : X.mg x = none) (hv : bootBuiltins x = some (.type "list")) (ha : GA X [e] a)
    (hn : x ≠ "__name__" := by decide) (hdb : (x == ("__debug__" : Str)) = false := by decide) (he : starEach [e] X.env = (false, eval e X.env) :: starEach [] X.env := by rfl) (hpl : (backTo pos (starEach [] X.env)).any (·.1) = false := by rfl) :
    GL X (.Call (.Name x p) [e] [] pos) (wListK a) := gl_of (pe_callTy (call_listD hc) hg hm hv ha hn hdb he hpl) fun F D A H σ sl P Q S hw q =>
  ⟨F, D, A, sl, _, S, hw, fun vs H1 xs b1 oks hx => by
    obtain ⟨x, ks, ts, rfl, e1, hp⟩ := hx
    have S1 := S.beh b1
    cases oks with
    | cons ok r =>
      cases r
      obtain ⟨d, us, rfl, hd, l, ra⟩ := ok.dctR e1
      refine ⟨d, _, rfl, hd, fun p hpn => ?_⟩
      have ek : ((ks.zip us).map fun kv => kV kv.1) = ks.map kV := by
        have := congrArg (List.map kV) (zip_fst l)
        rw [List.map_map] at this
        exact this
      rw [ek]
      exact q p _ (ks.map kV) _ (b1.trans (Beh.of_ext S1 (Ext.new hpn))) (fresh_back S.dice b1 hpn) (fresh_notin S1.alive hpn) upd_same (keys_rep _) hp⟩
/-- list(e.items()), whether the dict is locked or not -/
def tItemsR (te : TE) : TE := fun σ H Q => te σ H fun x H1 => ∃ (d : Addr) (kvs : List (Key × V)), x = .ref d ∧ Rd H1 d (.dK kvs) ∧ ∀ (H' : Hp) (p : Addr) (as : List Addr), (∀ b o, H1 b = some o → H' b = some o) → H1 p = none → (∀ t ∈ as, H1 t = none) → p ∉ as → H' p = some (.lst (as.map V.ref)) →
  Paired (fun (t : Addr) (kv : Key × V) => H' t = some (.tup [kV kv.1, kv.2])) as kvs → Q (.ref p) H'
theorem pe_itemsR {e : Expr} {te : TE} {p apos cpos pos : Pos} (hc : X.calm = true) (he : PE X e te) (hg : Gl X "list") (hm : X.mg "list" = none) (hv : bootBuiltins "list" = some (.type "list")) (hbase : attributeBase e "items" X.env (eval e X.env) = eval e X.env := by rfl) (hline : (apos.endLine == cpos.line) = true := by rfl)
    (hs : starEach [.Call (.Attribute e "items" apos) [] [] cpos] X.env = (false, eval (.Call (.Attribute e "items" apos) [] [] cpos) X.env) :: starEach [] X.env := by rfl) : PE X (.Call (.Name "list" p) [.Call (.Attribute e "items" apos) [] [] cpos] [] pos) (tItemsR te) := by
  refine ⟨fun pn s σ H Q I wish => wpAny_Call_Name_kw (ld_blt I hg hm hv (PyProof.Rows.callWith_type1 ?_ hs rfl))⟩
  rw [hs]
  refine (show wpAny _ _ (spliced ((false, eval (.Call (.Attribute e "items" apos) [] [] cpos) X.env) :: backTo pos (starEach [] X.env))) _ _ s from Calls.spliced_cons (wpAny_Call_method (T := "dict") (id := "dict.items") hbase rfl hline F.plainAttrs_dict F.slot_dict_items F.type_dict_items (thn (he.run pn s σ H _ I wish) fun u s1 ⟨x, H1, J, rx, d, kvs, ex, rd, go⟩ => ?_)))
  subst ex
  obtain rfl : u = Value.ref d := rx
  obtain ⟨hz, lo, rs, kv, hdo⟩ := dk_rd J.hok rd
  obtain ⟨ep, there⟩ := hdo.dictAt
  have J2 : Inv X pn σ H1 { s1 with heap := s1.heap.push { cls := .type "dict_items", data := .fields #[.ref d] } } := J.kept (t' := s1.toks) fun b ob z => Heap.get?_push_of_some _ z
  refine ⟨hdo.typeIs, hdo.mapOf.noDict, show wpAny _ _ (callWith cpos (.builtin "dict.items") [Value.ref d] [] []) _ X.xe s1 from method_meetsIn F.slot_dict_items F.entry_dict_items rfl (PySem.evalArgs_none ⟨rfl, hdo.typeIs, F.args_dict_items_1 _, _, meets_dict_items (mixKind X.prog X.w) d lo, ⟨rs, hdo⟩, Calls.spliced_nil (PySem.W.kdx_call (knd := mixKind X.prog X.w) (kvs := rs) (ep := ep) (J.ok.hd hc) ⟨_, Heap.get?_push_size _ rfl, rfl, rfl⟩ (there.push _) (by rw [← Paired.length kv]; exact hz) fun h' tk acc c as keeps hS hl hG hacc => ?_)⟩)⟩
  obtain ⟨H', k1, k2, k3, k4, k5, k6, J3⟩ := LiI.items_laid (tk := tk) J2 hz kv keeps hS hl hG hacc
  exact ⟨.ref _, H', J3, rfl, go H' _ as k1 k2 k3 k4 k5 k6⟩
theorem items_rep {K : PySem.W.Frag} {A : Avoid} {H' : Hp} : ∀ {as : List Addr} {ks : List Key} {vs : List V} {ts : List T}, ks.length = vs.length → (∀ a ∈ as, a ∉ A) → Paired (fun (t : Addr) (kv : Key × V) => H' t = some (.tup [kV kv.1, kv.2])) as (ks.zip vs) → RepAll K A H' vs ts → RepAll K A H' (as.map V.ref) (mkI ks ts)
  | _, [], _, _, _, _, h, _ => by
    cases h
    exact .nil
  | _, k :: ks, v :: vs, _, hl, hn, h, .cons r rs => by
    cases h with
    | cons a b => exact .cons (.tup (hn _ List.mem_cons_self) a (.cons (keyW_rep k) (.cons r .nil))) (items_rep (by simpa using hl) (fun a ha => hn a (List.mem_cons_of_mem _ ha)) b rs)
theorem gl_itemsL {e : Expr} {we : WE} {p apos cpos pos : Pos} (hc : X.calm = true) (he : GE X e we) (hg : Gl X "list") (hm : X.mg "list" = none) (hv : bootBuiltins "list" = some (.type "list")) (hbase : attributeBase e "items" X.env (eval e X.env) = eval e X.env := by rfl) (hline : (apos.endLine == cpos.line) = true := by rfl)
    (hs : starEach [.Call (.Attribute e "items" apos) [] [] cpos] X.env = (false, eval (.Call (.Attribute e "items" apos) [] [] cpos) X.env) :: starEach [] X.env := by rfl) : GL X (.Call (.Name "list" p) [.Call (.Attribute e "items" apos) [] [] cpos] [] pos) (wItemsL we) :=
  gl_of (pe_itemsR hc he hg hm hv hbase hline hs) fun F D A H σ sl P Q S hw q => ⟨F, D, A, sl, _, S, hw, fun v H1 x b1 ok hx => by
    obtain ⟨ks, ts, e1, hp⟩ := hx
    have S1 := S.beh b1
    obtain ⟨d, us, rfl, hd, l, ra⟩ := ok.dctR e1
    refine ⟨d, _, rfl, hd, fun H' p as keep hpn has hpa hv hpr => ?_⟩
    have ex : Ext [] H1 H' := fun a o _ h => keep a o h
    have be : Beh D H1 H' := Beh.of_ext S1 ex
    have hpA : p ∉ A := fresh_notin S1.alive hpn
    have hasA : ∀ a ∈ as, a ∉ p :: A := fun a ha z => by
      rcases List.mem_cons.mp z with z | z
      · exact hpa (by rw [← z]; exact ha)
      · exact S1.alive a z (has a ha)
    have ra' : RepAll X.K (p :: A) H' us ts := (ra.more hpn).mono fun a o _ h => keep a o h
    exact q p _ (as.map V.ref) (mkI ks ts) (b1.trans be) (fresh_back S.dice b1 hpn) hpA hv (items_rep l hasA hpr ra') hp⟩
theorem drop_none {n : Key} : ∀ {ks : List Key} {vs : List V} {ts : List T}, ks.length = vs.length → vs.length = ts.length → valV (ks.zip vs) n = none → dropKs n ks = ks ∧ dropVs n ks ts = ts
  | [], [], [], _, _, _ => ⟨rfl, rfl⟩
  | k :: ks, v :: vs, t :: ts, h1, h2, h => by
    unfold valV at h
    rw [List.zip_cons_cons, List.find?_cons] at h
    have e : decide (k = n) = false := by
      cases q : decide (k = n) with
      | false => rfl
      | true => rw [q] at h; cases h
    rw [e] at h
    obtain ⟨i1, i2⟩ := drop_none (n := n) (ks := ks) (vs := vs) (ts := ts) (by simpa using h1) (by simpa using h2) h
    have ne : k ≠ n := of_decide_eq_false e
    unfold dropKs at i1 ⊢
    rw [List.filter_cons, if_pos (by simpa using ne), i1, dropVs, if_neg ne, i2]
    exact ⟨rfl, rfl⟩
/-- x.pop(k, d), x a dict of one's own -/
theorem gs_dpop {j : Nat} (i : Nat) {x : Str} {ix e : Expr} {wi we : WE} {p apos cpos pos : Pos} (hr : Room j X.A) (hi : GE X ix wi) (he : GE X e we) (m : M2 X (.Name x p) "pop" apos ix e cpos) (hN : X.N[i]? = some x := by rfl) (hv : Vis X.env.scope x := by first | exact Or.inl rfl | exact Or.inr (Or.inl rfl) | exact Or.inr (Or.inr rfl)) (hd : (x == ("__debug__" : Str)) = false := by decide)
    (hcd : (x == ("__classdict__" : Str)) = false := by decide) (hs : swapsWith (.Call (.Attribute (.Name x p) "pop" apos) [ix, e] [] cpos) none pos.line X.env = pure false := by rfl) :
    GS X (.Expr (.Call (.Attribute (.Name x p) "pop" apos) [ix, e] [] cpos) pos) (wDPop i wi we) := gs_of (ps_expr (pe_dpop2 (pe_var hN hv hd hcd) hi he m) hs) fun E σ H ⟨F, D, A, sl, k, S, hw, q1, _⟩ => by
  obtain ⟨l, ks, ts, hn, hw⟩ := hw
  obtain ⟨u, hu, okl⟩ := S.get (nth_ob hn) (fun z => nomatch z)
  obtain ⟨rfl, h1, h2, h3, vs, hD, len, ra⟩ := okl
  refine ⟨.ref l, hu, l, rfl, .inl ⟨_, .inl hD⟩, F, D, A, sl, _, S, hw, fun y H2 z b2 ok2 hz => ⟨F, D, A, sl, _, S.beh b2, hz, fun y3 H3 z3 b3 ok3 hz3 => ?_⟩⟩
  obtain ⟨w, n, d, rfl, ek, rfl, hp⟩ := hz3
  have b := b2.trans b3
  have S3 := S.beh b
  have hD3 : H3 l = some (.dK (ks.zip vs)) := b.ext _ _ h3 hD
  have ra3 := ra.mono (ext_da S.dA b.ext)
  have S2 := S.beh b2
  refine ⟨ks.zip vs, n, hD3, keyT_ok ((ok2.val).mono (ext_da S2.dA b3.ext)) ek, fun v hv => ?_, fun hv => ?_⟩
  · refine q1 _ _ _ _ _ (S3.growO (o' := .dct (dropKs n ks) (dropVs n ks ts)) (nth_ob hn) ⟨dropVs n ks vs, ?_, (drop_zip len).2, (drop_rep ra3).mono (Ext.mut h1)⟩) hp
    rw [upd_same, (drop_zip len).1]
  · obtain ⟨e1, e2⟩ := drop_none len ra3.length hv
    rw [e1, e2] at hp
    have es : sl.set i (.ownd l ks ts) = sl := by
      obtain ⟨hi, e⟩ := List.getElem?_eq_some_iff.mp (nth_ob hn)
      show sl.set i (Sl.ob l (.dct ks ts)) = sl
      rw [← e]; exact List.set_getElem_self hi
    rw [es] at hp
    exact q1 _ _ _ _ _ S3 hp
end
end Tr


set_option Elab.async false
set_option linter.all false
set_option maxRecDepth 100000
set_option maxHeartbeats 0
/-! name = {k: v for ..} on one line; dicts of one's own are frozen; paths walked -/
namespace L2
open PySem PySem.Spec PyProof.Rows
section
variable {X : Cx}
end
end L2
namespace Tr
open PySem PySem.Spec PyProof.Rows L2
variable [Tabl]
section
variable {X : Cx} {K : PySem.W.Frag}
theorem pi_itemsV (i : Nat) {x : Str} {elts : List Expr} {kk : Nat} {tpos p apos cpos : Pos} (hN : X.N[i]? = some x := by rfl) (hv : Vis X.env.scope x := by first | exact Or.inl rfl | exact Or.inr (Or.inl rfl) | exact Or.inr (Or.inr rfl)) (hd : (x == ("__debug__" : Str)) = false := by decide) (hcd : (x == ("__classdict__" : Str)) = false := by decide)
    (hbase : attributeBase (.Name x p) "items" X.env (eval (.Name x p) X.env) = eval (.Name x p) X.env := by rfl) (hline : (apos.endLine == cpos.line) = true := by rfl) : PI X (.Tuple elts kk tpos) (.Call (.Attribute (.Name x p) "items" apos) [] [] cpos) (iItems (tVar i)) := pi_items (pe_var hN hv hd hcd) hbase hline
/-! name = {..}: as a value, as a dict of one's own -/
section
variable {y : Str} {py spos : Pos} {kx vx tg iter : Expr} {ifs : List Expr} {scope : Scope} {own : List (Str × Nat)} {pos : Pos} {g : Tg} {wt : WT} {tt : TT} {wk wv : WE}
end
def wFrzD (i : Nat) (w : WS) : WS := fun k sl => ∃ l ks ts, nth sl i = .ownd l ks ts ∧ w k (sl.set i (.val (.dct ks ts)))
theorem gss_frzD {sts : List Stmt} {w : WS} (i : Nat) (h : GSs X sts w) : GSs X sts (wFrzD i w) := ⟨fun pins sh σ H E I ⟨F, D, A, sl, k, S, ⟨l, ks, ts, hn, hw⟩, q1, q2, q3, q4⟩ => h.run pins sh σ H E I ⟨F, D, _, _, k, S.freeze (nth_ob hn), hw, q1, q2, q3, q4⟩⟩
end
end Tr


set_option Elab.async false
set_option linter.all false
set_option maxRecDepth 100000
set_option maxHeartbeats 0
/-! len(d), not d, dict(pairs) with keys twice, a dict written out -/
namespace Tr
open PySem PySem.Spec PyProof.Rows L2
variable [Tabl]
section
variable {X : Cx} {K : PySem.W.Frag} {A : Avoid} {H : Hp}
theorem cr_lenR : CallR X (.builtin "len") (fun xs H Q => ∃ a kvs, xs = [V.ref a] ∧ Rd H a (.dK kvs) ∧ Q (.int (kvs.length : Nat)) H) := by
  intro pn s σ H xs us Q I r wish
  obtain ⟨a, kvs, rfl, ha, q⟩ := wish
  obtain ⟨u, rfl, ru⟩ := vals1 r
  cases ru
  exact d_len I ha fun t s' J => ⟨.int kvs.length, H, J, ⟨t, rfl⟩, q⟩
def wLenD (a : WA) : WE := fun sl P => a sl fun xs => ∃ x ks ts, xs = [x] ∧ x.tree = some (.dct ks ts) ∧ P (.val (.int (ks.length : Nat)))
theorem ge_lenD {x : Str} {e : Expr} {a : WA} {p pos : Pos} (hg : Gl X x) (hm : X.mg x = none) (hv : bootBuiltins x = some (.builtin "len")) (ha : GA X [e] a)
    (hn : x ≠ "__name__" := by decide) (hdb : (x == ("__debug__" : Str)) = false := by decide) (he : starEach [e] X.env = (false, eval e X.env) :: starEach [] X.env := by rfl) (hpl : (backTo pos (starEach [] X.env)).any (·.1) = false := by rfl) :
    GE X (.Call (.Name x p) [e] [] pos) (wLenD a) := ge_of (pe_callB cr_lenR hg hm hv ha hn hdb he hpl) fun F D A H σ sl P Q S hw q =>
  ⟨F, D, A, sl, _, S, hw, fun vs H1 xs b1 oks hx => by
    obtain ⟨x, ks, ts, rfl, e1, hp⟩ := hx
    cases oks with
    | cons ok r =>
      cases r
      obtain ⟨d, us, rfl, hd, l, ra⟩ := ok.dctR e1
      refine ⟨d, _, rfl, hd, q _ H1 (.val (.int (ks.length : Nat))) b1 ?_ hp⟩
      rw [List.length_zip, ← l, Nat.min_self]
      exact Rep.int _⟩
/-- not x, x a dict of one's own -/
def wNotOD (i : Nat) : WE := fun sl P => ∃ l ks ts, nth sl i = .ownd l ks ts ∧ P (.val (.bl ks.isEmpty))
/-- the pairs laid one by one -/
def layK {α : Type} : List (Key × α) → List Key → List α → List Key × List α
  | [], ks, ts => (ks, ts)
  | (k, t) :: r, ks, ts => layK r (putKs k ks) (putVs k t ks ts)
theorem lay_rep : ∀ {kvs : List (Key × V)} {kvt : List (Key × T)} {ks : List Key} {vs : List V} {ts : List T}, kvs.map (·.1) = kvt.map (·.1) → RepAll K A H (kvs.map (·.2)) (kvt.map (·.2)) → ks.length = vs.length → RepAll K A H vs ts →
    ∃ ws, mergeK (ks.zip vs) kvs = (layK kvt ks ts).1.zip ws ∧ (layK kvt ks ts).1.length = ws.length ∧ RepAll K A H ws (layK kvt ks ts).2
  | [], [], ks, vs, ts, _, _, l, r => ⟨vs, rfl, l, r⟩
  | (k, v) :: kvs, (k', t) :: kvt, ks, vs, ts, e, h, l, r => by
    rw [List.map_cons, List.map_cons] at e
    injection e with e1 e2
    obtain rfl : k = k' := e1
    cases h with
    | cons h1 h2 =>
      obtain ⟨ws, g1, g2, g3⟩ := lay_rep (kvs := kvs) (kvt := kvt) (ks := putKs k ks) (vs := putVs k v ks vs) (ts := putVs k t ks ts) e2 h2 (put_length l) (put_repA h1 r)
      refine ⟨ws, ?_, g2, g3⟩
      show mergeK (putK (ks.zip vs) k v) kvs = _
      rw [put_zip l]
      exact g1
def wDictM (a : WA) : WD := fun sl P => a sl fun xs => ∃ x ts kvt, xs = [x] ∧ x.tree = some (.lst ts) ∧ pairsT ts = some kvt ∧ P (layK kvt [] []).1 (layK kvt [] []).2
theorem gd_dictM {x : Str} {e : Expr} {a : WA} {p pos : Pos} (hc : X.calm = true) (hg : Gl X x) (hm : X.mg x = none) (hv : bootBuiltins x = some (.type "dict")) (ha : GA X [e] a)
    (hn : x ≠ "__name__" := by decide) (hdb : (x == ("__debug__" : Str)) = false := by decide) (he : starEach [e] X.env = (false, eval e X.env) :: starEach [] X.env := by rfl) (hpl : (backTo pos (starEach [] X.env)).any (·.1) = false := by rfl) :
    GD X (.Call (.Name x p) [e] [] pos) (wDictM a) := gd_of (pe_callTy (call_dictP hc) hg hm hv ha hn hdb he hpl) fun F D A H σ sl P Q S hw q =>
  ⟨F, D, A, sl, _, S, hw, fun vs H1 xs b1 oks hx => by
    obtain ⟨x, ts, kvt, rfl, e0, e1, hp⟩ := hx
    have S1 := S.beh b1
    cases oks with
    | cons ok r =>
      cases r
      obtain ⟨b, us, rfl, hl, ra⟩ := (ok.reads e0).lst
      obtain ⟨ps, kvs, rfl, hpr, hk, hr⟩ := pairs_rep ra e1
      refine ⟨b, ps, kvs, rfl, .inl (.inl hl), hpr, fun p hpn => ?_⟩
      obtain ⟨ws, g1, g2, g3⟩ := lay_rep (ks := []) (vs := []) (ts := []) hk hr rfl .nil
      exact q p _ _ ws _ (b1.trans (Beh.of_ext S1 (Ext.new hpn))) (fresh_back S.dice b1 hpn) (fresh_notin S1.alive hpn) (by rw [upd_same, ← g1]; rfl) g2 ((g3.more hpn).mono (Ext.new hpn)) hp⟩
/-- {k: v} of one pair -/
def wDOne (a b : WE) : WD := fun sl P => a sl fun y => b sl fun z => ∃ u n d, y = .val u ∧ keyT u = some n ∧ z = .val d ∧ P [n] [d]
end
end Tr


set_option Elab.async false
set_option linter.all false
set_option maxRecDepth 100000
set_option maxHeartbeats 0
/-! name = {.. for .. in d.items()}; a, b = e, {} -/
namespace Tr
open PySem PySem.Spec PyProof.Rows L2
variable [Tabl]
section
variable {X : Cx} {y : Str} {py spos : Pos} {kx vx tg iter : Expr} {ifs : List Expr} {scope : Scope} {own : List (Str × Nat)} {pos : Pos} {g : Tg} {wt : WT} {tt : TT} {wk wv : WE} {wi : TE → TI} {mk : List Key → List T → List T} {tp : TE} {wp : WPD}
end
section
variable {X : Cx}
def wParVD (i j : Nat) (a : WE) (w : WD) : WS := fun k sl => a sl fun x => storable x = true ∧ w sl fun ks ts => ∀ l, k.nx ((sl.set i x).set j (.ownd l ks ts))
end
end Tr


set_option Elab.async false
set_option linter.all false
set_option maxRecDepth 100000
set_option maxHeartbeats 0
namespace Tr
open PySem PySem.Spec PyProof.Rows L2
variable [Tabl]
/-! ### 25. steps over dicts -/
section
variable {sl : List Sl} {P : Sl → Prop} {Q : Bool → Prop} {f bk ct : List Sl → Prop} {rt : Sl → Prop} {a b : WE} {v : WA} {q : List Key → List T → Prop} {ql : List T → Prop} {ks : List Key} {ts us : List T} {t u : T} {k : Key} {i j : Nat} {l : Addr} {mk : List Key → List T → List T} {g : Tg} {wt : WT} {we wk wv : WE} {vs : List Nat} {Z : Str}
theorem x_lcI (e : nth sl i = .val (.dct ks ts)) (h : lcG g wt we (wipeS sl vs) ql (mk ks ts)) : wLcI (wpVar i) mk g wt we vs sl ql := ⟨ks, ts, e, h.1, h.2⟩
def dcG (g : Tg) (wt : WT) (wk wv : WE) (sl : List Sl) (q : List Key → List T → Prop) (ts : List T) : Prop := ts.length ≤ 100000 ∧ wDColl g wt wk wv sl q ts [] []
theorem x_dc {wi : WI} (h : wi sl fun ts => dcG g wt wk wv (wipeS sl vs) q ts) : wDc wi g wt wk wv vs sl q := h
theorem x_dcI (e : nth sl i = .val (.dct ks ts)) (h : dcG g wt wk wv (wipeS sl vs) q (mk ks ts)) : wDcI (wpVar i) mk g wt wk wv vs sl q := ⟨ks, ts, e, h.1, h.2⟩
theorem x_forI {b : WS} {kk : Ks} (e : nth sl i = .val (.dct ks ts)) (h : wForL g b kk (mk ks ts) sl) : wForI (wpVar i) mk g b kk sl := ⟨ks, ts, e, h⟩
def sortKG (ql : List T → Prop) (xs : List Sl) : Prop := ∃ x ks ts, xs = [x] ∧ x.tree = some (.dct ks ts) ∧ SrtK ks ∧ ql ((sortK ks).map keyW)
theorem x_sortK (h : v sl fun xs => sortKG ql xs) : wSortK v sl ql := h
theorem x_sortKv (hs : SrtK ks) (h : ql ((sortK ks).map keyW)) : sortKG ql [.val (.dct ks ts)] := ⟨_, ks, ts, rfl, rfl, hs, h⟩
def listKG (ql : List T → Prop) (xs : List Sl) : Prop := ∃ x ks ts, xs = [x] ∧ x.tree = some (.dct ks ts) ∧ ql (ks.map keyW)
theorem x_listK (h : v sl fun xs => listKG ql xs) : wListK v sl ql := h
theorem x_listKv (h : ql (ks.map keyW)) : listKG ql [.val (.dct ks ts)] := ⟨_, ks, ts, rfl, rfl, h⟩
def itemsLG (ql : List T → Prop) (x : Sl) : Prop := ∃ ks ts, x.tree = some (.dct ks ts) ∧ ql (mkI ks ts)
theorem x_itemsL (h : a sl fun x => itemsLG ql x) : wItemsL a sl ql := h
theorem x_itemsLv (h : ql (mkI ks ts)) : itemsLG ql (.val (.dct ks ts)) := ⟨ks, ts, rfl, h⟩
theorem x_itemsLo (h : ql (mkI ks ts)) : itemsLG ql (.ownd l ks ts) := ⟨ks, ts, rfl, h⟩
def lenDG (P : Sl → Prop) (xs : List Sl) : Prop := ∃ x ks ts, xs = [x] ∧ x.tree = some (.dct ks ts) ∧ P (.val (.int (ks.length : Nat)))
theorem x_lenD (h : v sl fun xs => lenDG P xs) : wLenD v sl P := h
theorem x_lenDv (h : P (.val (.int (ks.length : Nat)))) : lenDG P [.val (.dct ks ts)] := ⟨_, ks, ts, rfl, rfl, h⟩
theorem x_notOD (e : nth sl i = .ownd l ks ts) (h : P (.val (.bl ks.isEmpty))) : wNotOD i sl P := ⟨l, ks, ts, e, h⟩
def dictMG (q : List Key → List T → Prop) (xs : List Sl) : Prop := ∃ x ts kvt, xs = [x] ∧ x.tree = some (.lst ts) ∧ pairsT ts = some kvt ∧ q (layK kvt [] []).1 (layK kvt [] []).2
theorem x_dictM (h : v sl fun xs => dictMG q xs) : wDictM v sl q := h
theorem x_dictMv {kvt : List (Key × T)} (e : pairsT ts = some kvt) (h : q (layK kvt [] []).1 (layK kvt [] []).2) : dictMG q [.val (.lst ts)] := ⟨_, ts, kvt, rfl, rfl, e, h⟩
def dgG (b : WE) (sl : List Sl) (P : Sl → Prop) (x : Sl) : Prop := b sl fun y => ∃ ks ts u k t, x.tree = some (.dct ks ts) ∧ y = .val u ∧ keyT u = some k ∧ ((ks.zip ts).find? fun kv => decide (kv.1 = k)).map (·.2) = some t ∧ P (.val t)
theorem x_dget (h : a sl fun x => dgG b sl P x) : wDGet a b sl P := h
theorem x_dgetv (e : nth sl j ≠ .any) (e2 : nth sl j = .val u) (ek : keyT u = some k) (g : getK ks ts k = some t) (h : P (.val t)) : dgG (wVar j) sl P (.val (.dct ks ts)) := ⟨e, ks, ts, u, k, t, rfl, e2, ek, g, h⟩
theorem x_dpop (e : nth sl i = .ownd l ks ts) (ha : a sl fun y => b sl fun z => ∃ u n d, y = .val u ∧ keyT u = some n ∧ z = .val d ∧ f (sl.set i (.ownd l (dropKs n ks) (dropVs n ks ts)))) : wDPop i a b ⟨f, rt, bk, ct⟩ sl := ⟨l, ks, ts, e, ha⟩
theorem x_parVD {w : WD} (h : a sl fun x => storable x = true ∧ w sl fun ks ts => ∀ l, f ((sl.set i x).set j (.ownd l ks ts))) : wParVD i j a w ⟨f, rt, bk, ct⟩ sl := h
theorem x_frzD {w : WS} (e : nth sl i = .ownd l ks ts) (h : w ⟨f, rt, bk, ct⟩ (sl.set i (.val (.dct ks ts)))) : wFrzD i w ⟨f, rt, bk, ct⟩ sl := ⟨l, ks, ts, e, h⟩
theorem x_dOne (h : a sl fun y => b sl fun z => ∃ u n d, y = .val u ∧ keyT u = some n ∧ z = .val d ∧ q [n] [d]) : wDOne a b sl q := h
/-! walks of a dict comprehension, by functions -/
theorem dc_map {α : Type} (t : α → T) (sl' : α → List Sl) (n : α → Key) (d : α → T) : ∀ (as : List α) (ks : List Key) (us : List T), (∀ x ∈ as, g.st (t x) sl = some (sl' x)) → (∀ x ∈ as, ∀ R : Bool → Prop, R true → wt (sl' x) R) → (∀ x ∈ as, ∀ R : Sl → Prop, (∀ u, keyT u = some (n x) → R (.val u)) → wk (sl' x) R) →
    (∀ x ∈ as, ∀ R : Sl → Prop, R (.val (d x)) → wv (sl' x) R) → q (layK (as.map fun x => (n x, d x)) ks us).1 (layK (as.map fun x => (n x, d x)) ks us).2 → wDColl g wt wk wv sl q (as.map t) ks us
  | [], ks, us, _, _, _, _, p => p
  | x :: r, ks, us, h1, h2, h3, h4, p => ⟨_, h1 x List.mem_cons_self, h2 x List.mem_cons_self _ (by
    rw [if_pos rfl]
    exact h3 x List.mem_cons_self _ fun u eu => h4 x List.mem_cons_self _ ⟨u, n x, d x, rfl, eu, rfl, dc_map t sl' n d r _ _ (fun y hy => h1 y (List.mem_cons_of_mem _ hy)) (fun y hy => h2 y (List.mem_cons_of_mem _ hy)) (fun y hy => h3 y (List.mem_cons_of_mem _ hy)) (fun y hy => h4 y (List.mem_cons_of_mem _ hy)) p⟩)⟩
end
end Tr


set_option Elab.async false
set_option linter.all false
set_option maxRecDepth 100000
/-! == and != of two dicts of data, both answers -/
namespace Tr
open PySem PySem.Spec PyProof.Rows L2
inductive HitsV (K : PySem.W.Frag) (H : Hp) (ls : List (Key × V)) : List (Key × V) → Bool → Prop
  | nil : HitsV K H ls [] true
  | miss {k : Key} {v : V} {r : List (Key × V)} : valV ls k = none → HitsV K H ls ((k, v) :: r) false
  | hit {k : Key} {v u : V} {d e : PyData} {r : List (Key × V)} {b : Bool} : valV ls k = some u → Dp K H v d → Dp K H u e → SeqAt.shaped d = true → SeqAt.shaped e = true → HitsV K H ls r b → HitsV K H ls ((k, v) :: r) (PyData.eqv d e && b)
def rEqDD (K : PySem.W.Frag) : R2 := fun x y H Q => ∃ a b ks ls r, x = .ref a ∧ y = .ref b ∧ Rd H a (.dK ks) ∧ Rd H b (.dK ls) ∧ HitsV K H ls ks r ∧ Q (.bl (ks.length == ls.length && r)) H
def rNeDD (K : PySem.W.Frag) : R2 := fun x y H Q => ∃ a b ks ls r, x = .ref a ∧ y = .ref b ∧ Rd H a (.dK ks) ∧ Rd H b (.dK ls) ∧ HitsV K H ls ks r ∧ Q (.bl (!(ks.length == ls.length && r))) H
section
variable {X : Cx} {pins : List (Addr × Obj)} {σ : L2.St} {H : Hp} {s : Shared}
theorem rd_dict (I : Inv X pins σ H s) {d : Addr} {kvs : List (Key × V)} (h : Rd H d (.dK kvs)) : ∃ vs, (d == sysModules) = false ∧ KV kvs vs ∧ s.heap.DictOf (mixKind X.prog X.w) d vs := by
  rcases h with h | ⟨o, h⟩
  · obtain ⟨_, y, vs, r, da⟩ := (show ObjOk X.prog X.w H s.heap d (.dK kvs) from I.hok d _ h)
    exact ⟨vs, y, r, da⟩
  · obtain ⟨y, _, _, _, ep, vs, _, _, r, da⟩ := Inv.frzK I h
    obtain ⟨o, es, h1, h2, h3, h4⟩ := da
    exact ⟨vs, y, r, o, es, ep, h1, h2, h3, h4⟩
theorem hits_of (I : Inv X pins σ H s) {A : Around} (hu : A.in1.units + 64 < cLine) {ls : List (Key × V)} {vb : List (Key × Value)} (rb : KV ls vb) {ks : List (Key × V)} {va : List (Key × Value)} (ra : KV ks va) : ∀ {r : Bool}, HitsV X.K H ls ks r → PySem.W.KeqHits A.in1 s vb va r := by
  unfold KV at ra
  induction ra with
  | nil => intro r h; cases h; exact .nil
  | @cons p q ps qs h t k =>
    intro r hv
    obtain ⟨h1, h2⟩ := h
    obtain ⟨key, v⟩ := q
    obtain ⟨key', v'⟩ := p
    have h1' : key' = key := h1
    subst h1'
    cases hv with
    | miss e =>
      have rr : RelO none (valueAt vb key') := by rw [← e]; exact rb.val key'
      exact .miss (by cases hh : valueAt vb key' with
        | none => rfl
        | some y => rw [hh] at rr; exact rr.elim)
    | @hit _ _ u _ _ _ _ e hd he sd se hr =>
      have rr : RelO (some u) (valueAt vb key') := by rw [← e]; exact rb.val key'
      obtain ⟨y, hy, ry⟩ := rr.some_of
      obtain ⟨as, r1⟩ := Dp.reads I _ _ _ hd h2
      obtain ⟨bs, r2⟩ := Dp.reads I _ _ _ he ry
      exact .hit hy (PySem.W.keq_at r1 r2 sd se hu) (k hr)
theorem op_eqDD (hu : X.A.units + 70 < cLine) : OpR X (compareOp .Eq) (rEqDD X.K) := by
  intro pins s σ H x y v u Q I rx ry h
  obtain ⟨a, b, ks, ls, r, rfl, rfl, ea, eb, hh, q⟩ := h
  cases (show v = Value.ref a from rx)
  cases (show u = Value.ref b from ry)
  obtain ⟨va, ya, ra, da⟩ := rd_dict I ea
  obtain ⟨vb, yb, rb, db⟩ := rd_dict I eb
  refine PySem.W.keq_eq ya yb da db (by omega) (fun _ => hits_of I (by show X.A.units + 1 + 64 < cLine; omega) rb ra hh) ?_
  rw [show va.length = ks.length from ra.length.symm, show vb.length = ls.length from rb.length.symm]
  exact ⟨.bl _, H, I, rfl, q⟩
theorem op_neDD (hu : X.A.units + 70 < cLine) : OpR X (compareOp .NotEq) (rNeDD X.K) := by
  intro pins s σ H x y v u Q I rx ry h
  obtain ⟨a, b, ks, ls, r, rfl, rfl, ea, eb, hh, q⟩ := h
  cases (show v = Value.ref a from rx)
  cases (show u = Value.ref b from ry)
  obtain ⟨va, ya, ra, da⟩ := rd_dict I ea
  obtain ⟨vb, yb, rb, db⟩ := rd_dict I eb
  refine PySem.W.keq_ne ya yb da db (by omega) (fun _ => hits_of I (by show X.A.units + 1 + 64 < cLine; omega) rb ra hh) ?_
  rw [show va.length = ks.length from ra.length.symm, show vb.length = ls.length from rb.length.symm]
  exact ⟨.bl _, H, I, rfl, q⟩
end
/-! over trees -/
def eqDB : List Key → List T → List Key → List T → Bool
  | k :: ks, t :: ts, ls, us => (match getK ls us k with
    | some u => eqB t u
    | none => false) && eqDB ks ts ls us
  | _, _, _, _ => true
def eqDct : T → T → Option T
  | .dct ks ts, .dct ls us => if (ts.all shp && us.all shp) = true then some (.bl (ks.length == ls.length && eqDB ks ts ls us)) else none
  | _, _ => none
def neDct : T → T → Option T
  | .dct ks ts, .dct ls us => if (ts.all shp && us.all shp) = true then some (.bl (!(ks.length == ls.length && eqDB ks ts ls us))) else none
  | _, _ => none
theorem getK_mem {ls : List Key} {us : List T} {k : Key} {u : T} (h : getK ls us k = some u) : u ∈ us := by
  unfold getK at h
  obtain ⟨p, hp, rfl⟩ := Option.map_eq_some_iff.mp h
  exact (List.of_mem_zip (List.mem_of_find?_eq_some hp)).2
section
variable [Tabl] {K : PySem.W.Frag} {A : Avoid} {H : Hp}
theorem hitsT {A' : Avoid} {ls : List Key} {us : List T} {ws : List V} (rl : RepAll K A H ws us) (hs : ∀ u ∈ us, shp u = true) : ∀ {ks : List Key} {vs : List V} {ts : List T}, ks.length = vs.length → RepAll K A' H vs ts → (∀ t ∈ ts, shp t = true) → HitsV K H (ls.zip ws) (ks.zip vs) (eqDB ks ts ls us)
  | [], _, _, _, _, _ => .nil
  | k :: ks, [], _, h, _, _ => by cases h
  | k :: ks, v :: vs, t :: ts, h, .cons r1 r2, ht => by
    have ih := hitsT (ls := ls) rl hs (ks := ks) (vs := vs) (ts := ts) (by simpa using h) r2 fun x hx => ht x (List.mem_cons_of_mem _ hx)
    obtain ⟨i1, i2⟩ := getK_rep (ks := ls) (k := k) rl
    show HitsV K H (ls.zip ws) ((k, v) :: ks.zip vs) ((match getK ls us k with
      | some u => eqB t u
      | none => false) && eqDB ks ts ls us)
    cases e : getK ls us k with
    | none => exact .miss (i2 e)
    | some u =>
      obtain ⟨w, e1, e2⟩ := i1 u e
      obtain ⟨d, d1, d2⟩ := shp_of (ht t List.mem_cons_self)
      obtain ⟨d', f1, f2⟩ := shp_of (hs u (getK_mem e))
      have hq : eqB t u = PyData.eqv d d' := by unfold eqB; rw [d1, f1]
      show HitsV K H _ _ (eqB t u && _)
      rw [hq]
      exact .hit e1 (dat_ok r1 d1) (dat_ok e2 f1) d2 f2 ih
theorem sop_eqDct : SOp K (rEqDD K) eqDct := fun A H u v x y z Q al ru rv e q => by
  cases x with
  | dct ks ts =>
    cases y with
    | dct ls us =>
      have e : (if (ts.all shp && us.all shp) = true then some (T.bl (ks.length == ls.length && eqDB ks ts ls us)) else none) = some z := e
      split at e
      · rename_i hs
        rw [Bool.and_eq_true, List.all_eq_true, List.all_eq_true] at hs
        obtain ⟨a, vs, rfl, ha, la, ra⟩ := ru.dct
        obtain ⟨b, ws, rfl, hb, lb, rb⟩ := rv.dct
        cases e
        refine ⟨a, b, _, _, _, rfl, rfl, ha, hb, hitsT rb hs.2 la ra hs.1, ?_⟩
        rw [List.length_zip, List.length_zip, ← la, ← lb, Nat.min_self, Nat.min_self]
        exact q _ H (Ext.refl H) (.bl _)
      · cases e
    | _ => cases e
  | _ => cases e
theorem sop_neDct : SOp K (rNeDD K) neDct := fun A H u v x y z Q al ru rv e q => by
  cases x with
  | dct ks ts =>
    cases y with
    | dct ls us =>
      have e : (if (ts.all shp && us.all shp) = true then some (T.bl (!(ks.length == ls.length && eqDB ks ts ls us))) else none) = some z := e
      split at e
      · rename_i hs
        rw [Bool.and_eq_true, List.all_eq_true, List.all_eq_true] at hs
        obtain ⟨a, vs, rfl, ha, la, ra⟩ := ru.dct
        obtain ⟨b, ws, rfl, hb, lb, rb⟩ := rv.dct
        cases e
        refine ⟨a, b, _, _, _, rfl, rfl, ha, hb, hitsT rb hs.2 la ra hs.1, ?_⟩
        rw [List.length_zip, List.length_zip, ← la, ← lb, Nat.min_self, Nat.min_self]
        exact q _ H (Ext.refl H) (.bl _)
      · cases e
    | _ => cases e
  | _ => cases e
end
end Tr


set_option Elab.async false
set_option linter.all false
set_option maxRecDepth 100000
set_option maxHeartbeats 0
/-! Own exception classes over any built-in one, whose __init__ hands a text on and sets one field -/
namespace L2
open PySem PySem.Spec PyProof.Rows
/-- what a built-in exception class is, as own ones are made over it -/
structure ExB (B : String) (bmB : List Value) (newId initId : String) : Prop where
  base : ExcBaseFacts B newId initId bmB
  store : StoreFacts B bmB "object.__setattr__" "object"
  typ : typeOf (.type B) = pure (.type "type")
  stub : Manifest.isStub B = false
  hand : PySem.W.handedIn (.builtin initId) = true
structure OexG (K : PySem.W.Frag) (C : Addr) (bmB : List Value) (newId : String) : Prop where
  obj : PySem.W.excInitIn K C bmB newId = true
  ovr : PySem.W.excOver K C bmB = true
  dic : PySem.W.hasDictIn K C = true
  sa : PySem.W.findIn K (.ref C) "__setattr__" = some (some (.builtin "object.__setattr__"))
  exC : PySem.W.subIn K (.ref C) (.type "BaseException") = some true
  tyC : PySem.W.typeIn K (.ref C) = some (.type "type")
  kC : PySem.W.keepIn K (.ref C) = true
section
variable {X : Cx} {pins : List (Addr × Obj)} {σ : St} {H : Hp} {s : Shared} {a C : Addr} {f : Str} {y : V} {u : Value} {Q : Unit → Shared → Prop} {E : Value → Shared → Prop} {A : Around} {B newId initId : String} {bmB : List Value}
theorem exo_un {fs : List Addr} {dx : Addr} {hp h' : Heap} (I : HOk X.prog X.w H hp) (e : H a = some (exo a C none)) (hnd : H dx = none) (dn : hp.objs.size ≤ dx) (keep : ∀ b o, b ≠ a → hp.get? b = some o → h'.get? b = some o) (there : ∃ o, h'.get? a = some o) :
    Un fs [] H (upd (upd H dx (exd dx [(f, y)])) a (exo a C (some dx))) hp h' := by
  have apart : ∀ {b : Addr}, H b = none → b ≠ a := fun {b} n z => by
    rw [z, e] at n
    cases n
  have old : ∀ {b : Addr} {o : Obj}, hp.get? b = some o → b ≠ dx := fun {b o} q => Nat.ne_of_lt (Nat.lt_of_lt_of_le (Heap.lt_size q) dn)
  constructor
  · intro b o q n _ _
    exact keep b o (apart n) q
  · intro b o q n _ _
    exact ⟨o.slots, keep b o (apart n) q⟩
  · intro b o q n _
    rw [upd_ne (apart n), upd_ne (old q)]
    exact n
  · intro b o q _
    by_cases hb : b = a
    · rw [hb]; exact there
    · exact ⟨o, keep b o hb q⟩
  · intro b xs q
    rw [upd_ne (at_ne e q exo_tup), upd_ne (ne_of_none q hnd)]
    exact q
  · intro b o v q
    rw [upd_ne (at_ne e q exo_frz), upd_ne (ne_of_none q hnd)]
    exact q
  · intro b ps q
    refine ⟨#[], ?_⟩
    rw [upd_ne (at_ne e q exo_tbl), upd_ne (ne_of_none q hnd), q]
    simp
/-- self.f = y, the first field of an exception that is being made -/
theorem ost_first (BB : ExB B bmB newId initId) (T : OexG X.K C bmB newId) (I : Inv X pins σ H s) (e : H a = some (exo a C none)) (tk : PySem.W.takerIn X.K C f = some none) (ry : RelV y u)
    (go : ∀ dx s', H dx = none → dx ≠ a → Inv X pins σ (upd (upd H dx (exd dx [(f, y)])) a (exo a C (some dx))) s' → Q () s') : wpAny (model X.prog X.w) A (setAttr (.ref a) f u) Q E s := by
  obtain ⟨t1, ho⟩ := exo_at I.hok e
  obtain ⟨cd, hcd, hdict⟩ := PySem.W.any_some T.dic
  obtain ⟨hp, g, d, t, os⟩ := s
  refine PySem.W.set_plain I.kIn (od := none) ⟨ho, rfl, rfl, trivial⟩ T.sa (PySem.W.osa_openX (od := none) BB.store I.kIn ⟨ho, rfl, rfl, trivial⟩ T.ovr tk fun b => ?_)
  refine wpAny_bind (wpAny_pure (wpAny_bind (PySem.W.instanceDict_exc (t := t1) (c2 := .none) ho (PySem.W.looks_clsIn I.kIn hcd) hdict ?_)))
  show wpAny _ _ (PySem.Builtin.ObjectAttr.storeInDict hp.objs.size _ f u) _ _ _
  have alt : a ≠ hp.objs.size := Nat.ne_of_lt (Heap.lt_size ho)
  refine PySem.HandSPX.store_in_new ⟨_, #[], _, (Heap.get?_update_ne _ _ _ _ alt.symm).trans (Heap.get?_push_at rfl rfl), rfl, fun e he => absurd he (by simp), fun _ => rfl⟩ fun h' tk' hn sb => ?_
  have hnd : H hp.objs.size = none := I.hok.fresh (Nat.le_refl _)
  have h1 : (hp.push (PySem.W.dictOf [] 0)).get? a = some _ := Heap.get?_push_of_some _ ho
  have keep : ∀ c o, c ≠ a → hp.get? c = some o → h'.get? c = some o := fun c o hc ho => (sb.2 c (Nat.ne_of_lt (Heap.lt_size ho))).trans ((Heap.get?_update_ne _ _ _ _ hc).trans (Heap.get?_push_of_some _ ho))
  have hx : h'.get? a = some ({ cls := .ref C, dict := some hp.objs.size, data := .fields #[.ref t1, .none, .none, .none, .bool false, .none] } : Obj) := (sb.2 a alt).trans (Heap.get?_update_self _ h1 rfl)
  refine go hp.objs.size _ hnd alt.symm (I.un (t' := tk') (exo_un I.hok e hnd (Nat.le_refl _) keep ⟨_, hx⟩) fun c o q => ?_)
  by_cases hc : c = a
  · subst hc
    rw [upd_same] at q
    cases q
    exact exo_ok hx
  · rw [upd_ne hc] at q
    by_cases hd : c = hp.objs.size
    · subst hd
      rw [upd_same] at q
      cases q
      exact exd_ok hn (relO_put (fs := []) ry fun g => True.intro)
    · rw [upd_ne hd] at q
      refine (I.hok c o q).stay (fun c1 v hc1 z => keep c1 v ?_ z) (fun c1 hc1 => ?_) fun c1 xs hc1 => ?_
      · exact hc1.elim (fun w => by rw [w]; exact hc) fun w => at_ne e w exo_own
      · rw [upd_ne (at_ne e hc1 exo_own), upd_ne (ne_of_none hc1 hnd)]
        exact hc1
      · rw [upd_ne (at_ne e hc1 exo_tup), upd_ne (ne_of_none hc1 hnd)]
        exact hc1
/-- B.__init__(self, ..) -/
theorem binit_ok {us : List Value} {Q : Value → Shared → Prop} (BB : ExB B bmB newId initId) (T : OexG X.K C bmB newId) (I : Inv X pins σ H s) (e : H a = some (exo a C none)) (hl : us.length ≤ sizeLine) (go : ∀ s', Inv X pins σ H s' → Q .none s') :
    wpAny (model X.prog X.w) A (call (.builtin initId) (.ref a :: us)) Q E s := by
  obtain ⟨nm, N, qn, bs, bm, hdct, sn, sub, ab, col, dd, k0, k1, k2, k3, k5, hC, hT⟩ := PySem.W.excInit_of I.kIn T.obj
  obtain ⟨t1, ho⟩ := exo_at I.hok e
  obtain ⟨hp, g, d, t, os⟩ := s
  refine wpAny_call (PySem.HandSPX.init_base BB.base hT hC ho hl fun h' t2 k hx => ?_)
  have J := I.write (t' := t) (x := a) (e := a) (o := exo a C none) (by rw [e]; exact True.intro) (.inl rfl) k ⟨_, hx⟩ (exo_ok hx)
  have same : upd H a (exo a C none) = H := funext fun b => by
    by_cases hb : b = a
    · rw [hb, upd_same, e]
    · exact upd_ne hb
  exact go _ (same ▸ J)
end
/-! readings -/
def tBi (K : PySem.W.Frag) (bmB : List Value) (newId : String) (ta : TA) : TE := fun σ H Q => ta σ H fun vs H1 => ∃ (a C : Addr) (ws : List V), vs = .ref a :: ws ∧ ws.length ≤ 1000 ∧ OexG K C bmB newId ∧ H1 a = some (exo a C none) ∧ Q .non H1
def tOs1 (K : PySem.W.Frag) (bmB : List Value) (newId : String) (f : Str) (to te : TE) : TS := fun D σ H => te σ H fun y H1 => to σ H1 fun x H2 => ∃ a C : Addr, x = .ref a ∧ OexG K C bmB newId ∧ PySem.W.takerIn K C f = some none ∧ H2 a = some (exo a C none) ∧
  ∀ dx, H2 dx = none → dx ≠ a → D.nx σ (upd (upd H2 dx (exd dx [(f, y)])) a (exo a C (some dx)))
section
variable {X : Cx} {o e : Expr} {es : List Expr} {to te : TE} {ta : TA} {f : Str} {p p' p1 p2 pos : Pos} {B newId initId : String} {bmB : List Value}
theorem pe_binit {x : Str} {pl : Sem Bool} (BB : ExB B bmB newId initId) (hg : Gl X x) (hm : X.mg x = none) (hv : bootBuiltins x = some (.type B)) (vV : PySem.W.findCls X.K (.type B) (.type "type") "__init__" = some (.val (.builtin initId))) (ha : PA X (e :: es) ta)
    (hn : x ≠ "__name__" := by decide) (hdb : (x == ("__debug__" : Str)) = false := by decide)
    (hc : eval (.Call (.Attribute (.Name x p1) "__init__" p2) (e :: es) [] pos) X.env = (do
      let ov ← eval (.Name x p1) X.env
      standAt p2.atName
      let (f, first) ← holding [ov] (getMethod ov "__init__" pl)
      callWith pos f first (backTo pos (starEach (e :: es) X.env)) (backToKw pos (keywordEach [] X.env))) := by rfl)
    (he : starEach (e :: es) X.env = (false, eval e X.env) :: starEach es X.env := by rfl) (hpl : (backTo pos (starEach es X.env)).any (·.1) = false := by rfl) :
    PE X (.Call (.Attribute (.Name x p1) "__init__" p2) (e :: es) [] pos) (tBi X.K bmB newId ta) := by
  refine ⟨fun pins s σ H Q I h => PySem.W.methodCall_KW (ld_blt I hg hm hv ?_ hn hdb) hc⟩
  obtain ⟨m, fr⟩ := I.fr
  refine PySem.W.method_type fr I.ok.mod.kin BB.typ BB.stub vV BB.hand ?_
  show wpAny _ _ (callWith pos (Value.builtin initId) [] _ []) _ _ _
  refine PyProof.Rows.callWith_method1 (thn (ha.run pos pins _ σ H _ (I.tok _) h) fun us s1 got => ?_) he hpl
  obtain ⟨vs, H1, I1, r1, a, C, ws, rfl, hl, T, ea, q⟩ := got
  cases r1 with
  | cons ra rw' =>
    cases ra
    refine binit_ok BB T I1 ea ?_ fun s' J => ⟨.non, H1, J, rfl, q⟩
    rw [← Paired.length rw', sizeLine_eq]
    omega
theorem ps_os1 (BB : ExB B bmB newId initId) (ho : PE X o to) (he : PE X e te) (hs : swapsWith e (some (.Attribute o f p')) pos.line X.env = pure false := by rfl) : PS X (.Assign [.Attribute o f p'] e pos) (tOs1 X.K bmB newId f to te) := by
  refine ⟨fun pins s σ H D I h => plainObj_wpAny_Assign_Attribute (thn (he.run pins s σ H _ I h) fun v s1 got => ?_) hs⟩
  obtain ⟨y, H1, I1, r1, q1⟩ := got
  refine thn (ho.run pins s1 σ H1 _ I1 q1) fun u s2 got => ?_
  obtain ⟨x, H2, I2, r2, a, C, rfl, T, tk, ea, q⟩ := got
  cases r2
  exact ost_first BB T I2 ea tk r1 fun dx s' n ne J => ⟨σ, _, J, q dx n ne⟩
/-- C(e, ..), made -/
theorem pmk_any {CX : CXT} {x : Str} {C fI : Addr} {k : Nat} {fd : FuncData} {ps : List Str} {sp : Sp} {ds : List Value} {dvs : List V} (BB : ExB B bmB newId initId) (T : OexG X.K C bmB newId) (iC : PySem.W.findIn X.K (.ref C) "__init__" = some (some (.ref fI))) (tI : PySem.W.typeIn X.K (.ref fI) = some (.type "function"))
    (G : FnOk X.prog X.w X.K X.mg X.base CX k fI fd ps sp) (hr : Room (k + 1) X.A) (hb : Binds X.K fd ps ds) (hd : Vals dvs ds) (hx : Passes CX X (fun _ _ _ => False)) (hg : Gl X x) (hm : X.mg x = some (.ref C)) (ha : PA X (e :: es) ta)
    (hdb : (x == ("__debug__" : Str)) = false := by decide) (he : starEach (e :: es) X.env = (false, eval e X.env) :: starEach es X.env := by rfl) (hpl : (backTo pos (starEach es X.env)).any (·.1) = false := by rfl) :
    PMk X (.Call (.Name x p) (e :: es) [] pos) (tMkO C sp dvs ta) := fun pins s σ H Q I h => by
  refine wpAny_Call_Name_kw (ld_glob I hg hm (PySem.W.callWith_K (h₀ := X.base) I.ok.mod.kin T.kC (thn (ha.run pos pins s σ H _ I h) fun us s1 got => ?_) he hpl) hdb)
  obtain ⟨vs, H1, I1, r1, hz, q1⟩ := got
  refine ⟨I1.kIn, ?_⟩
  show wpAny _ _ (call (.ref C) us) _ _ _
  obtain ⟨nm, N, qn, bs, bm, hdct, sn, sub, ab, col, dd, k0, k1, k2, k3, k5, hC, hT⟩ := PySem.W.excInit_of I1.kIn T.obj
  obtain ⟨hp, g, dr, tk, os⟩ := s1
  have fresh : H1 (hp.objs.size + 1) = none := I1.hok.fresh (Nat.le_succ _)
  have want := q1 _ fresh
  have later : ∀ b o, hp.get? b = some o → ((hp.push (PySem.W.kdv_tup us)).push (PySem.HandSPX.excO C hp.objs.size)).get? b = some o := fun b o e => Heap.get?_push_of_some _ (Heap.get?_push_of_some _ e)
  have new : ((hp.push (PySem.W.kdv_tup us)).push (PySem.HandSPX.excO C hp.objs.size)).get? (hp.objs.size + 1) = some (PySem.HandSPX.excO C hp.objs.size) := by heap_get
  have J := I1.laid (t' := tk) (a := hp.objs.size + 1) (o := exo (hp.objs.size + 1) C none) later (Nat.le_succ _) (exo_ok new)
  have rv : Vals (V.ref (hp.objs.size + 1) :: (vs ++ dvs)) (Value.ref (hp.objs.size + 1) :: (us ++ ds)) := .cons rfl (r1.append hd)
  have many : (Value.ref (hp.objs.size + 1) :: us ++ ds).length = ps.length := by
    have e := rv.length
    rw [G.len _ _ _ _ want] at e
    exact e.symm
  have few : us.length ≤ sizeLine := by
    rw [← Paired.length r1, sizeLine_eq]
    omega
  refine wpAny_call (PySem.HandSPX.call_own BB.base hT hC (PySem.W.looks_findIn I1.kIn iC) (fun self => PySem.W.bind_fn I1.kIn self tI) few ?_)
  refine codeAny_mono (G.run _ X.stack _ _ ⟨_, []⟩ _ _ _ (fun _ _ _ => False) (hr.make C us []) (J.env0.make C us []) (hb _ (Value.ref (hp.objs.size + 1) :: us) J.kIn many) rv want) fun r s' got => ?_
  match r, got with
  | .error er, got => exact hx pins σ _ _ er s' J got
  | .ok (.ret u), got =>
    obtain ⟨v, H2, os2, bare2, un2, hok2, ru, rfl, d, fs, ea, ed, hd1, q2⟩ := got
    obtain ⟨h2, g2, d2, t2, os'⟩ := s'
    exact ⟨ru, mk_end (raises_own T.exC T.tyC) I1 (Nat.le_succ _) later un2 hok2 os2 bare2 ea ed hd1 q2⟩
end
end L2


set_option Elab.async false
set_option linter.all false
set_option maxRecDepth 100000
set_option maxHeartbeats 0
/-! raise C(e), C of one's own with one field -/
namespace Tr
open PySem PySem.Spec PyProof.Rows L2
variable [Tabl]
abbrev bmIndexError : List Value := [.type "IndexError", .type "LookupError", .type "Exception", .type "BaseException", .type "object"]
abbrev bmOverflowError : List Value := [.type "OverflowError", .type "ArithmeticError", .type "Exception", .type "BaseException", .type "object"]
abbrev bmArithmeticError : List Value := [.type "ArithmeticError", .type "Exception", .type "BaseException", .type "object"]
theorem exbOverflowError : ExB "OverflowError" bmOverflowError "OverflowError.__new__" "OverflowError.__init__" := ⟨PySem.F.excBase_OverflowError, PySem.F.store_OverflowError, by kernel_rfl, by decide +kernel, by decide +kernel⟩
/-- what its __init__ promises: the field is set -/
def spE (C : Addr) (f : Str) : Sp := fun vs H Q _ => ∃ a y, vs = [.ref a, y] ∧ H a = some (exo a C none) ∧ ∀ dx, H dx = none → dx ≠ a → Q .non (upd (upd H dx (exd dx [(f, y)])) a (exo a C (some dx)))
section
variable {P : Program} {w : World} {K : PySem.W.Frag} {mg : Str → Option Value} {base : Heap} {qual f : Str} {params : Arguments} {body : List Stmt} {scope : Scope} {dvs : List V} {kws : List (Str × V)} {fI C : Addr} {fd : FuncData} {N : List Str} {B newId initId : String} {bmB : List Value} {m : Str}
theorem fn_exc (F : FunD K "__init__" qual params body scope [] kws fI fd) (T : OexG K C bmB newId) (tk : PySem.W.takerIn K C f = some none) (S : FnScope ["self", f] ["self", f] scope)
    (hb : ∀ (cdv : Value) (A : Around) (outer : List Env) (s : Shared) (H : Hp) (E : XK), PSs (cxOf CX0 P w K mg base ["self", f] qual scope fI cdv A outer s H E) body (tSeq (tDrop (tBi K bmB newId (tCons (tVar 0) (tCons (tC (.str m)) tNil)))) (tOs1 K bmB newId f (tVar 0) (tVar 1)))) :
    FnOk P w K mg base CX0 1 fI fd ["self", f] (spE C f) := by
  refine F.ok S (fun vs H Q E h => ?_) fun cdv A outer s H vs Q E hr h => ⟨_, hb cdv A outer s H E, ?_⟩
  · obtain ⟨a, y, rfl, _⟩ := h
    rfl
  · obtain ⟨a, y, rfl, ha, q⟩ := h
    exact ⟨.ref a, rfl, ⟨a, C, [.str m], rfl, Nat.le_of_ble_eq_true rfl, T, ha, y, rfl, .ref a, rfl, a, C, rfl, T, tk, ha, q⟩⟩
/-- what the head tells of such a class -/
def oexB (c f B : String) (bmB : List Value) (newId initId : String) (K : PySem.W.Frag) : Bool :=
  PySem.W.excInitIn K (He.ga K c) bmB newId && (PySem.W.excOver K (He.ga K c) bmB && (PySem.W.hasDictIn K (He.ga K c) && (decide (PySem.W.findIn K (.ref (He.ga K c)) "__setattr__" = some (some (.builtin "object.__setattr__"))) && (decide (PySem.W.subIn K (.ref (He.ga K c)) (.type "BaseException") = some true) &&
  (decide (PySem.W.typeIn K (.ref (He.ga K c)) = some (.type "type")) && (PySem.W.keepIn K (.ref (He.ga K c)) && (decide (PySem.W.takerIn K (He.ga K c) f = some none) && (decide (PySem.W.findIn K (.ref (He.ga K c)) "__init__" = some (some (.ref (He.fAd K (c, some "__init__"))))) &&
  (decide (PySem.W.typeIn K (.ref (He.fAd K (c, some "__init__"))) = some (.type "function")) && (match PySem.W.findCls K (.type B) (.type "type") "__init__" with
    | some (.val (.builtin t)) => decide (t = initId)
    | _ => false))))))))))
structure OexF (c f B : String) (bmB : List Value) (newId initId : String) (K : PySem.W.Frag) : Prop where
  g : OexG K (He.ga K c) bmB newId
  t : PySem.W.takerIn K (He.ga K c) f = some none
  i : PySem.W.findIn K (.ref (He.ga K c)) "__init__" = some (some (.ref (He.fAd K (c, some "__init__"))))
  f : PySem.W.typeIn K (.ref (He.fAd K (c, some "__init__"))) = some (.type "function")
  v : PySem.W.findCls K (.type B) (.type "type") "__init__" = some (.val (.builtin initId))
theorem oexB_ok {c f B : String} {bmB : List Value} {newId initId : String} {K : PySem.W.Frag} (h : oexB c f B bmB newId initId K = true) : OexF c f B bmB newId initId K := by
  unfold oexB at h
  simp only [Bool.and_eq_true, decide_eq_true_eq] at h
  obtain ⟨h1, h2, h3, h4, h5, h6, h7, h8, h9, h10, h11⟩ := h
  refine ⟨⟨h1, h2, h3, h4, h5, h6, h7⟩, h8, h9, h10, ?_⟩
  split at h11
  · rename_i e
    rw [e, of_decide_eq_true h11]
  · cases h11
/-- an own exception class, as it is raised: its field -/
def ExI (P : Program) (w : World) (K : PySem.W.Frag) (mg : Str → Option Value) (base : Heap) (x : Str) (C : Addr) (f : Str) : Prop :=
  ∃ (bmB : List Value) (B newId initId : String) (fI : Addr) (fd : FuncData) (ps : List Str), ExB B bmB newId initId ∧ OexG K C bmB newId ∧ PySem.W.findIn K (.ref C) "__init__" = some (some (.ref fI)) ∧ PySem.W.typeIn K (.ref fI) = some (.type "function") ∧ FnOk P w K mg base CX0 1 fI fd ps (spE C f) ∧ Binds K fd ps [] ∧ mg x = some (.ref C)
end
section
variable {X : Cx} {W : L2.WX} {C : Addr} {f : Str}
theorem exc_heap {H : Hp} {a dx : Addr} {o1 o2 o3 : HO} {y : HO} (ha : H a = none) (hne : dx ≠ a) : upd (del (upd (upd (upd H a o1) dx o2) a o3) a) dx y = upd H dx y := by
  funext b
  by_cases h1 : b = dx
  · rw [h1, upd_same, upd_same]
  · rw [upd_ne h1, upd_ne h1]
    by_cases h2 : b = a
    · rw [h2, del_same, ha]
    · rw [del_ne h2, upd_ne h2, upd_ne h1, upd_ne h2]
def xRaiseF (C : Addr) (f : Str) (a : WA) : WSX := fun R _ sl => a sl fun xs => ∃ t, xs = [.val t] ∧ R (.ref C) (some (f, t)) sl
theorem gx_raiseF {j : Nat} {x : Str} {e : Expr} {a : WA} {p pos pos' : Pos} (hc : X.calm = true) (tk : Takes X W) (d : ExI X.prog X.w X.K X.mg X.base x C f) (hr : Room j X.A) (hg : Gl X x) (ha : GA X [e] a) (hj : 2 ≤ j := by decide) (hdb : (x == ("__debug__" : Str)) = false := by decide)
    (he : starEach [e] X.env = (false, eval e X.env) :: starEach [] X.env := by rfl) (hpl : (backTo pos (starEach [] X.env)).any (·.1) = false := by rfl) :
    GSX X W (.Raise (some (.Call (.Name x p) [e] [] pos)) none pos') (xRaiseF C f a) := by
  obtain ⟨bmB, B, newId, initId, fI, fd, ps, BB, T, iC, tI, G, hb, hm⟩ := d
  refine gx_of (ps_raise hc tk (pmk_any BB T iC tI G (hr.mono hj) hb .nil pass0 hg hm ha hdb he hpl)) fun E σ H ⟨F, D, A, sl, k, R, S, hw, _, _, _, _, q5⟩ => ⟨F, D, A, sl, _, S, hw, fun vs H1 xs b1 oks hx => ?_⟩
  obtain ⟨t, rfl, hr⟩ := hx
  have S1 := S.beh b1
  cases oks with
  | cons ok rest =>
    rename_i v vs
    cases rest
    have r : Rep X.K A H1 v t := ok
    refine ⟨by simp, fun b hb => ⟨b, v, rfl, upd_same, fun dx hdx hne => ⟨rfl, dx, [(f, v)], upd_same, by rw [upd_ne hne, upd_same], ?_, ?_⟩⟩⟩
    · rwa [upd_ne hne] at hdx
    · rw [upd_ne hne] at hdx
      rw [exc_heap hb hne]
      exact q5 D A _ σ sl _ (some dx) (some (f, t)) (S1.beh (Beh.of_ext S1 (Ext.new hdx))) ⟨dx, v, rfl, fresh_notin S1.alive hdx, upd_same, r.mono (Ext.new hdx)⟩ hr
end
end Tr


set_option Elab.async false
set_option linter.all false
set_option maxRecDepth 100000
set_option maxHeartbeats 0
/-! try with several clauses, some of which name the exception -/
namespace L2
open PySem PySem.Spec PyProof.Rows
abbrev Clause := Value × Option Nat × (Addr → Value → Option Addr → TS)
/-- behind a clause that names the exception the name is gone -/
def Ends.gone (i : Nat) (D : Ends) : Ends where
  nx := fun σ H => D.nx (σ.set i none) H
  rt := D.rt
  bk := fun σ H => D.bk (σ.set i none) H
  ct := fun σ H => D.ct (σ.set i none) H
/-- what a suite is asked -/
def inClause (ts : Addr → Value → Option Addr → TS) (cls : Value) (d : Option Addr) (D : Ends) (σ : St) (H : Hp) (a : Addr) : Option Nat → Prop
  | none => ts a cls d D σ H
  | some i => ts a cls d (D.gone i) (σ.set i (some (.ref a))) H
def wMix (K : PySem.W.Frag) (n : Nat) (Wout : WX) (D : Ends) : List Clause → WX
  | [] => Wout
  | (c, i, ts) :: r => fun cls d σ H => ∃ hit, PySem.W.exmOne K cls c = some hit ∧ (hit = true → ∀ a, H a = none → σ.length = n → inClause ts cls d D σ H a i) ∧ (hit = false → wMix K n Wout D r cls d σ H)
inductive Clauses (X : Cx) : List ExceptHandler → List Clause → Prop
  | nil : Clauses X [] []
  | bare {x : Str} {c : Value} {ts : Addr → Value → Option Addr → TS} {b : Stmt} {bs : List Stmt} {p q : Pos} {hds : List ExceptHandler} {l : List Clause} (nm : Names X x c)
      (run : ∀ (a : Addr) (oe : Obj) (cls : Value) (d : Option Addr) (pn : List (Addr × Obj)), Zc cls d oe → (∃ vs, oe.data = .fields vs) → PSs (X.suite a ((a, oe) :: pn)) (b :: bs) (ts a cls d)) (more : Clauses X hds l) :
      Clauses X (.ExceptHandler (some (.Name x p)) none (b :: bs) q :: hds) ((c, none, ts) :: l)
  | as {x n : Str} {i : Nat} {c : Value} {ts : Addr → Value → Option Addr → TS} {b : Stmt} {bs : List Stmt} {p q : Pos} {hds : List ExceptHandler} {l : List Clause} (nm : Names X x c) (at_ : X.N[i]? = some n) (loc : X.env.kindOf n = some .local)
      (run : ∀ (a : Addr) (oe : Obj) (cls : Value) (d : Option Addr) (pn : List (Addr × Obj)), Zc cls d oe → (∃ vs, oe.data = .fields vs) → PSs (X.suite a ((a, oe) :: pn)) (b :: bs) (ts a cls d)) (more : Clauses X hds l) :
      Clauses X (.ExceptHandler (some (.Name x p)) (some n) (b :: bs) q :: hds) ((c, some i, ts) :: l)
section
variable {X : Cx} {body : List Stmt} {hd : ExceptHandler} {hds : List ExceptHandler} {l : List Clause} {pos : Pos} {tb : WX → TS} {Wout : WX}
theorem ps_try_mix (stk : X.stack = X.env :: X.outer) (frm : X.env.frame = some X.env.locals) (nd : X.N.Nodup) (tk : Takes X Wout)
    (walk : ∀ (W : WX) (pn : List (Addr × Obj)) (xe : Value → Shared → Prop), Takes (X.tr pn xe) W → PassesOwn (model X.prog X.w) X.A X.env xe → PSs (X.tr pn xe) body (tb W))
    (cl : Clauses X (hd :: hds) l) : PS X (.Try body (hd :: hds) [] [] pos) (fun D σ H => tb (wMix X.K X.N.length Wout D l) D σ H) := by
  constructor
  intro pins s σ H D I want
  have good := I.ok
  have frames : X.A.frames = some (X.env :: X.outer) := good.frames.trans (congrArg some stk)
  refine wpAny_Try_except (wpAny_mono ((walk (wMix X.K X.N.length Wout D l) (X.pn ++ pins) (fun v t₁ => wpAny (model X.prog X.w) X.A (noteFrame v X.env) (fun _ t₂ => wpAny (model X.prog X.w) X.A (setFlight v none)
    (fun _ t₃ => wpAny (model X.prog X.w) X.A (handleBy v X.env (hd :: hds)) (SP X pins D) X.xe t₃) X.xe t₂) X.xe t₁) (fun u s' got => ?_) PassesOwn.looking).run [] s σ H D (I.toTry _) want) (fun fl s1 got => ?_) fun _ _ z => z)
  · obtain ⟨a, B, sI, pins', σ', H', cls, d, rfl, J', nb, up, sky, na, os, ag, w⟩ := got
    have J : Inv X pins σ' H' sI := J'.ofTry good
    have sky1 : Sky B (X.env :: X.outer) a (Zc cls d) X.env.locals s'.heap := by rw [← stk]; exact sky
    show wpAny (model X.prog X.w) X.A (noteFrame (.ref a) X.env) _ _ _
    refine Sky.land Zc.steady frames frm sky1 fun hA flA upA => ?_
    have JA : Inv X pins σ' H' { s' with heap := hA } := J.landed nb flA.1 (up.trans upA) os ag
    obtain ⟨oA, vA, eA, zA, dA⟩ := flA.there
    have apart : a ∉ frs (X.env :: X.outer) := fun hm => by
      obtain ⟨_, o2, e2, hn⟩ := flA.2.2.1.mem hm
      rw [eA] at e2; cases e2
      exact hn _ dA
    have nL : a ≠ X.env.locals := fun z => apart (List.mem_filterMap.mpr ⟨X.env, List.mem_cons_self, by rw [frm, z]⟩)
    have nF : a ∉ X.fs := fun hm => by
      obtain ⟨e, he, q⟩ := List.mem_filterMap.mp hm
      exact apart (List.mem_filterMap.mpr ⟨e, List.mem_cons_of_mem _ he, q⟩)
    have SA := JA.suite eA dA na nL nF
    have look : ∀ {x : Str} {c : Value} {p : Pos} {Q : Value → Shared → Prop} {E : Value → Shared → Prop}, Names X x c → Q c { s' with heap := hA } → wpAny (model X.prog X.w) (X.A.mark (some (.ref a))) (eval (.Name x p) X.env) Q E { s' with heap := hA } := by
      intro x c p Q E nm q
      obtain ⟨g, db, hm | ⟨hm, hv, hn⟩⟩ := nm
      · exact ld_glob (X := X.suite a ((a, oA) :: (X.pn ++ pins))) SA g hm q db
      · exact ld_blt (X := X.suite a ((a, oA) :: (X.pn ++ pins))) SA g hm hv q hn db
    have type : PySem.W.Looks (model X.prog X.w) hA (typeOf (.ref a)) cls := fun A Q E s k q => wpAny_typeOf_ref (k _ _ eA) (by rw [zA.1]; exact q)
    have len : σ'.length = X.N.length := J.len
    have go : ∀ {hs : List ExceptHandler} {m : List Clause}, Clauses X hs m → wMix X.K X.N.length Wout D m cls d σ' H' → wpAny (model X.prog X.w) X.A (handleBy (.ref a) X.env hs) (SP X pins D) X.xe { s' with heap := hA } := by
      intro hs m hk
      induction hk with
      | nil =>
        intro out
        apply wpAny_handleBy_nil
        obtain ⟨_, _, _, oe, vs, T, oT, ts', he, hz, hdd, h1, hr⟩ := id flA
        unfold PySem.passOn
        refine wpAny_bind (wpAny_field he hdd h1 ?_)
        rw [if_neg (show (Value.ref T == Value.none) ≠ true from by simp)]
        have last : wpAny (model X.prog X.w) X.A (setFlight (.ref a) X.env.frame) (fun _ t4 => wpAny (model X.prog X.w) X.A (throw (.ref a) : Sem Flow) (SP X pins D) X.xe t4) X.xe { s' with heap := hA } := by
          rw [frm]
          refine HandSPX.setFlight_upZ flA fun hB flB upB => wpAny_throw (tk _ _ ⟨a, B, sI, pins, σ', H', cls, d, rfl, J, nb, (up.trans upA).trans upB, .inr (.inr ?_), na, os, ag, out⟩)
          rw [stk]; exact flB
        first
          | exact wpAny_bind last
          | exact wpAny_bind (wpAny_pure (wpAny_bind last))
      | @bare x c ts b bs p q hs2 m2 nm run more ih =>
        rintro ⟨hit, e1, yes, no⟩
        refine wpAny_handleBy_cons (codeAny_handlers_test (look nm ((PySem.W.exm_one (M := model X.prog X.w) JA.kIn type e1).here ?_))) (fun z => by cases z)
        cases hit with
        | false => exact ih (no rfl)
        | true =>
          refine codeAny_handlers_suite (HandSPX.lands_againZ flA fun hB flB upB => ?_)
          have JB : Inv X pins σ' H' { s' with heap := hB } := J.landed nb flB.1 ((up.trans upA).trans upB) os ag
          obtain ⟨oB, vB, eB, zB, dB⟩ := flB.there
          refine wpAny_mono ((run a oB cls d (X.pn ++ pins) zB ⟨_, dB⟩).run [] _ _ H' _ (JB.suite eB dB na nL nF) (yes rfl a na len)) (fun fl t got => ?_) fun _ _ z => z.elim
          match fl, got with
          | .next, ⟨σ6, H6, S6, q6⟩ => exact ⟨_, _, S6.unsuite good, q6⟩
          | .brk, ⟨σ6, H6, S6, q6⟩ => exact ⟨_, _, S6.unsuite good, q6⟩
          | .cont, ⟨σ6, H6, S6, q6⟩ => exact ⟨_, _, S6.unsuite good, q6⟩
          | .ret u, ⟨v6, σ6, H6, S6, r6, q6⟩ => exact ⟨_, _, _, S6.unsuite good, r6, q6⟩
      | @as x n i c ts b bs p q hs2 m2 nm at_ loc run more ih =>
        rintro ⟨hit, e1, yes, no⟩
        refine wpAny_handleBy_cons (codeAny_handlers_test (look nm ((PySem.W.exm_one (M := model X.prog X.w) JA.kIn type e1).here ?_))) (fun z => by cases z)
        cases hit with
        | false => exact ih (no rfl)
        | true =>
          refine codeAny_handlers_suite_as (HandSPX.lands_againZ flA fun hB flB upB => ?_)
          have JB : Inv X pins σ' H' { s' with heap := hB } := J.landed nb flB.1 ((up.trans upA).trans upB) os ag
          obtain ⟨oB, vB, eB, zB, dB⟩ := flB.there
          refine store_ok (X := X.suite a ((a, oB) :: (X.pn ++ pins))) (v := .ref a) (JB.suite eB dB na nL nF) nd at_ (.inl loc) rfl (fun t5 S5 => ?_) (.inr loc)
          refine wpAny_mono ((run a oB cls d (X.pn ++ pins) zB ⟨_, dB⟩).run [] t5 _ H' _ S5 (yes rfl a na len)) (fun fl t got => ?_) fun _ _ z => z.elim
          have away : ∀ {σ6 : St} {H6 : Hp} {Q : Shared → Prop}, Inv (X.suite a ((a, oB) :: (X.pn ++ pins))) [] σ6 H6 t → (∀ t7, Inv X pins (σ6.set i none) H6 t7 → Q t7) →
              wpAny (model X.prog X.w) X.A (do bindName X.env n .none; unbindBehindTheSuite X.env n q) (fun _ t7 => Q t7) X.xe t := fun S6 hq => gone_ok (S6.unsuite good) nd at_ loc hq
          match fl, got with
          | .next, ⟨σ6, H6, S6, q6⟩ => exact away S6 fun t7 J7 => ⟨_, _, J7, q6⟩
          | .brk, ⟨σ6, H6, S6, q6⟩ => exact away S6 fun t7 J7 => ⟨_, _, J7, q6⟩
          | .cont, ⟨σ6, H6, S6, q6⟩ => exact away S6 fun t7 J7 => ⟨_, _, J7, q6⟩
          | .ret u, ⟨v6, σ6, H6, S6, r6, q6⟩ => exact away S6 fun t7 J7 => ⟨_, _, _, J7, r6, q6⟩
    exact go cl w
  · match fl, got with
    | .next, ⟨σ', H', J', q⟩ => exact wpAny_execs_nil ⟨σ', H', J'.ofTry good, q⟩
    | .brk, ⟨σ', H', J', q⟩ => exact ⟨σ', H', J'.ofTry good, q⟩
    | .cont, ⟨σ', H', J', q⟩ => exact ⟨σ', H', J'.ofTry good, q⟩
    | .ret u, ⟨v, σ', H', J', r, q⟩ => exact ⟨v, σ', H', J'.ofTry good, r, q⟩
end
end L2


set_option Elab.async false
set_option linter.all false
set_option maxRecDepth 100000
set_option maxHeartbeats 0
/-! A lambda handed to a def that tries it, some of whose handlers look at what the exception keeps -/
namespace Tr
open PySem PySem.Spec PyProof.Rows L2 LamX
variable [Tabl]
abbrev HdE := Value × Option Nat × (Addr → Value → Option Addr → TE)
def slotAs (a : Addr) (σ : L2.St) : Option Nat → L2.St
  | none => σ
  | some i => σ.set i (some (.ref a))
def wHdsM (em : Value → Value → Option Bool) (cls : Value) (d : Option Addr) (n : Nat) (H : Hp) (Q : VK) : List HdE → Prop
  | [] => False
  | (c, i, t) :: r => ∃ b, em cls c = some b ∧ (b = true → ∀ a σ, H a = none → σ.length = n → t a cls d (slotAs a σ i) H Q) ∧ (b = false → wHdsM em cls d n H Q r)
def TTmetM (K : PySem.W.Frag) (Ng : List Str) (l : List HdE) (fine : TE) : (XK → Hp → VK → Prop) → Hp → VK → Prop := fun tl H Q => ∀ f : Addr,
  tl (fun cls d H' => wHdsM (PySem.W.exmOne K) cls d Ng.length H' Q l) H fun _ H' => fine (L2.start Ng [V.ref f]) H' Q
/-- where a handler stands -/
structure HdCx (K : PySem.W.Frag) (mg : Str → Option Value) (sg : Scope) (Ng : List Str) (Z : Cx) : Prop where
  k : Z.K = K
  m : Z.mg = mg
  sc : Z.env.scope = sg
  n : Z.N = Ng
  g : NoG Z.A
  u : Z.A.units + 64 < cLine
inductive MetHM (K : PySem.W.Frag) (mg : Str → Option Value) (sg : Scope) (Ng : List Str) : List ExceptHandler → List HdE → Prop
  | nil : MetHM K mg sg Ng [] []
  | bare {x : Str} {e : Expr} {t : Addr → Value → Option Addr → TE} {c : Value} {np p6 p7 : Pos} {hds : List ExceptHandler} {l : List HdE} (h1 : sg.names.lookup x = some .globalImplicit) (h2 : mg x = some c)
      (he : ∀ (Z : Cx) (a : Addr) (oe : Obj) (cls : Value) (d : Option Addr) (pn : List (Addr × Obj)), HdCx K mg sg Ng Z → Zc cls d oe → (∃ vs, oe.data = .fields vs) → PE (Z.suite a ((a, oe) :: pn)) e (t a cls d)) (r : MetHM K mg sg Ng hds l) (h3 : (x == ("__debug__" : Str)) = false) :
      MetHM K mg sg Ng (.ExceptHandler (some (.Name x np)) none [.Return (some e) p6] p7 :: hds) ((c, none, t) :: l)
  | as {x n : Str} {i : Nat} {e : Expr} {t : Addr → Value → Option Addr → TE} {c : Value} {np p6 p7 : Pos} {hds : List ExceptHandler} {l : List HdE} (h1 : sg.names.lookup x = some .globalImplicit) (h2 : mg x = some c) (h4 : Ng[i]? = some n) (h5 : sg.names.lookup n = some .local)
      (he : ∀ (Z : Cx) (a : Addr) (oe : Obj) (cls : Value) (d : Option Addr) (pn : List (Addr × Obj)), HdCx K mg sg Ng Z → Zc cls d oe → (∃ vs, oe.data = .fields vs) → PE (Z.suite a ((a, oe) :: pn)) e (t a cls d)) (r : MetHM K mg sg Ng hds l) (h3 : (x == ("__debug__" : Str)) = false) :
      MetHM K mg sg Ng (.ExceptHandler (some (.Name x np)) (some n) [.Return (some e) p6] p7 :: hds) ((c, some i, t) :: l)
def hdM (l : List HdE) : List Clause := l.map fun x => (x.1, x.2.1, fun a cls d => tRet (x.2.2 a cls d))
theorem MetHM.ok {K : PySem.W.Frag} {mg : Str → Option Value} {sg : Scope} {Ng : List Str} {Z : Cx} {hds : List ExceptHandler} {l : List HdE} (h : MetHM K mg sg Ng hds l) (z : HdCx K mg sg Ng Z) : Clauses Z hds (hdM l) := by
  induction h with
  | nil => exact .nil
  | bare h1 h2 he r h3 ih => exact .bare ⟨by rw [← z.sc] at h1; exact h1, h3, .inl (by rw [z.m]; exact h2)⟩ (fun a oe cls d pn hz hf => pss_one (ps_ret (he Z a oe cls d pn z hz hf))) ih
  | as h1 h2 h4 h5 he r h3 ih => exact .as ⟨by rw [← z.sc] at h1; exact h1, h3, .inl (by rw [z.m]; exact h2)⟩ (by rw [z.n]; exact h4) (by rw [← z.sc] at h5; exact h5) (fun a oe cls d pn hz hf => pss_one (ps_ret (he Z a oe cls d pn z hz hf))) ih
section
variable {X : Cx}
end
/-! ### the reading -/
abbrev HdW := Value × Option (Nat × Str) × (Addr → Value → Option Addr → WE)
/-- what a handler is asked, where it has n slots -/
def hdAll (n : Nat) (w : Addr → Value → Option Addr → WE) (cls : Value) (o : XF) (P : Sl → Prop) : Option (Nat × Str) → Prop
  | none => ∀ a d, w a cls d (List.replicate n .any) P
  | some j => ∃ t, o = some (j.2, t) ∧ ∀ a dd, w a cls (some dd) ((List.replicate n .any).set j.1 (.val (.exc a dd j.2 t))) P
def wHdsA (em : Value → Value → Option Bool) (cls : Value) (o : XF) (n : Nat) (P : Sl → Prop) : List HdW → Prop
  | [] => False
  | (c, j, w) :: r => ∃ b, em cls c = some b ∧ (b = true → hdAll n w cls o P j) ∧ (b = false → wHdsA em cls o n P r)
def toE (K : PySem.W.Frag) (l : List HdW) : List HdE := l.map fun x => (x.1, x.2.1.map (·.1), fun a cls d => eOf K (x.2.2 a cls d))
section
variable {K : PySem.W.Frag} {F : Fx} {D A : Avoid} {H : Hp} {σ : L2.St} {sl : List Sl} {em : Value → Value → Option Bool} {cls : Value} {d : Option Addr} {o : XF} {n : Nat} {P : Sl → Prop} {Q : VK}
theorem wHdsA.to (S : Sta K F D A H σ sl) (ex : ExcF K A H d o) (q : ∀ v H2 x, Beh D H H2 → SlOk K D F.A0 A H2 v x → P x → Q v H2) : ∀ {l : List HdW}, wHdsA em cls o n P l → wHdsM em cls d n H Q (toE K l)
  | [], h => h
  | (c, none, w) :: r, ⟨b, h1, h2, h3⟩ => ⟨b, h1, fun hb a σ' ha hl => by
    subst hl
    have h4 : ∀ a d, w a cls d (List.replicate σ'.length .any) P := h2 hb
    exact ⟨F, D, A, _, P, S.anew σ', h4 a d, q⟩, fun hb => wHdsA.to S ex q (h3 hb)⟩
  | (c, some j, w) :: r, ⟨b, h1, h2, h3⟩ => ⟨b, h1, fun hb a σ' ha hl => by
    subst hl
    have h4 : ∃ t, o = some (j.2, t) ∧ ∀ a dd, w a cls (some dd) ((List.replicate σ'.length .any).set j.1 (.val (.exc a dd j.2 t))) P := h2 hb
    obtain ⟨t, rfl, h5⟩ := h4
    obtain ⟨dd, v, rfl, e1, e2, e3⟩ := ex
    exact ⟨F, D, A, _, P, (S.anew σ').set (i := j.1) (x := .val (.exc a dd j.2 t)) (Rep.exc e1 e2 e3) (fun _ _ z => nomatch z), h5 a dd, q⟩, fun hb => wHdsA.to S ex q (h3 hb)⟩
end
inductive MetHA (K : PySem.W.Frag) (mg : Str → Option Value) (sg : Scope) (Ng : List Str) : List ExceptHandler → List HdW → Prop
  | nil : MetHA K mg sg Ng [] []
  | bare {x : Str} {e : Expr} {w : Addr → Value → Option Addr → WE} {c : Value} {np p6 p7 : Pos} {hds : List ExceptHandler} {l : List HdW} (h1 : sg.names.lookup x = some .globalImplicit) (h2 : mg x = some c)
      (he : ∀ (Z : Cx) (a : Addr) (oe : Obj) (cls : Value) (d : Option Addr) (pn : List (Addr × Obj)), HdCx K mg sg Ng Z → Zc cls d oe → (∃ vs, oe.data = .fields vs) → GE (Z.suite a ((a, oe) :: pn)) e (w a cls d)) (r : MetHA K mg sg Ng hds l) (h3 : (x == ("__debug__" : Str)) = false := by decide) :
      MetHA K mg sg Ng (.ExceptHandler (some (.Name x np)) none [.Return (some e) p6] p7 :: hds) ((c, none, w) :: l)
  | as {x n f : Str} {i : Nat} {e : Expr} {w : Addr → Value → Option Addr → WE} {c : Value} {np p6 p7 : Pos} {hds : List ExceptHandler} {l : List HdW} (h1 : sg.names.lookup x = some .globalImplicit) (h2 : mg x = some c) (h4 : Ng[i]? = some n) (h5 : sg.names.lookup n = some .local)
      (he : ∀ (Z : Cx) (a : Addr) (oe : Obj) (cls : Value) (d : Option Addr) (pn : List (Addr × Obj)), HdCx K mg sg Ng Z → Zc cls d oe → (∃ vs, oe.data = .fields vs) → GE (Z.suite a ((a, oe) :: pn)) e (w a cls d)) (r : MetHA K mg sg Ng hds l) (h3 : (x == ("__debug__" : Str)) = false := by decide) :
      MetHA K mg sg Ng (.ExceptHandler (some (.Name x np)) (some n) [.Return (some e) p6] p7 :: hds) ((c, some (i, f), w) :: l)
theorem MetHA.e {K : PySem.W.Frag} {mg : Str → Option Value} {sg : Scope} {Ng : List Str} {hds : List ExceptHandler} {l : List HdW} (h : MetHA K mg sg Ng hds l) : MetHM K mg sg Ng hds (toE K l) := by
  induction h with
  | nil => exact .nil
  | bare h1 h2 he r h3 ih => exact .bare h1 h2 (fun Z a oe cls d pn z hz hf => by have q := he Z a oe cls d pn z hz hf; rw [← z.k]; exact q) ih h3
  | as h1 h2 h4 h5 he r h3 ih => exact .as h1 h2 h4 h5 (fun Z a oe cls d pn z hz hf => by have q := he Z a oe cls d pn z hz hf; rw [← z.k]; exact q) ih h3
/-- what a lambda raises, as the def that tries it tells it -/
def wMetA (em : Value → Value → Option Bool) (n : Nat) (l : List HdW) (fine : WE) (wb : WEX) : WE := fun sl P =>
  wb (fun cls o => wHdsA em cls o n P l) sl fun _ => ∀ n, fine (List.replicate n .any) P
section
variable {X : Cx}
end
/-! ### what the exception keeps -/
def XfD (K : PySem.W.Frag) (C : Addr) (f : Str) : Prop := XfC K C ∧ PySem.W.findIn K (.ref C) f = some none
def xfdB (c f : String) (K : PySem.W.Frag) : Bool := L2.xfB K (He.ga K c) && decide (PySem.W.findIn K (.ref (He.ga K c)) f = some none)
theorem xfdB_ok {c f : String} {K : PySem.W.Frag} (h : xfdB c f K = true) : XfD K (He.ga K c) f := by
  unfold xfdB at h
  rw [Bool.and_eq_true] at h
  exact ⟨L2.xfB_ok h.1, of_decide_eq_true h.2⟩
def wXf (a : Addr) (cls : Value) (d : Option Addr) (C : Addr) (i : Nat) (f : Str) : WE := fun sl P => cls = .ref C ∧ ∃ dd t, d = some dd ∧ nth sl i = .val (.exc a dd f t) ∧ P (.val t)
section
variable {K : PySem.W.Frag} {mg : Str → Option Value} {sg : Scope} {Ng : List Str} {Z : Cx}
theorem HdCx.gl {x : Str} {a : Addr} {pn : List (Addr × Obj)} (z : HdCx K mg sg Ng Z) (h : sg.names.lookup x = some .globalImplicit) : Gl (Z.suite a pn) x := by
  rw [← z.sc] at h; exact h
theorem HdCx.un {a : Addr} {pn : List (Addr × Obj)} (z : HdCx K mg sg Ng Z) : (Z.suite a pn).A.units + 64 < cLine := z.u
end
/-! a def that makes lambdas, and whose handlers use repr -/
section
variable {P : Program} {w : World} {K : PySem.W.Frag} {mg : Str → Option Value} {base : Heap}
end
end Tr


set_option Elab.async false
set_option linter.all false
set_option maxRecDepth 100000
set_option maxHeartbeats 0
/-! A def that a variable holds, called -/
namespace L2
open PySem PySem.Spec PyProof.Rows
section
variable {X : Cx} {CX : CXT} {k i : Nat} {S : Addr → Sp → Prop} {E : St → XK} {x : Str} {p pos : Pos} {e : Expr} {es : List Expr} {t : TA}
def tCallV (i : Nat) (S : Addr → Sp → Prop) (E : St → XK) (t : TA) : TE := fun σ H Q => ∃ f sp, σ[i]? = some (some (.ref f)) ∧ S f sp ∧ t σ H fun vs H1 => sp vs H1 Q (E σ)
end
end L2
namespace Tr
open PySem PySem.Spec PyProof.Rows L2
variable [Tabl]
section
variable {X : Cx} {E : XK}
def xCallV (cN : Str → Addr) (i : Nat) (tbl : List (Str × WFX)) (a : WA) : WEX := fun R sl P => ∃ p ∈ tbl, nth sl i = .val (.fn (cN p.1)) ∧ a sl fun xs => xs.all isArg = true ∧ p.2 R xs P
end
section
variable {P : Program} {w : World} {K : PySem.W.Frag} {mg : Str → Option Value} {base : Heap} {k j : Nat} {cN : Str → Addr}
theorem FnOk.mono {CX : CXT} {f : Addr} {fd : FuncData} {ps : List Str} {sp : Sp} (F : FnOk P w K mg base CX j f fd ps sp) (h : j ≤ k) : FnOk P w K mg base CX k f fd ps sp :=
  ⟨F.len, fun A outer s H args us vs Q E hr => F.run A outer s H args us vs Q E (hr.mono h)⟩
theorem CallX.mono {x : Str} {wf : WFX} {dvs : List V} (d : CallX P w K mg base j x wf dvs) (h : j ≤ k) : CallX P w K mg base k x wf dvs := by
  obtain ⟨f, fd, ps, ds, F, r⟩ := d
  exact ⟨f, fd, ps, ds, FnOk.mono F h, r⟩
theorem CallX.mkI {c f B : String} {bmB : List Value} {newId initId : String} {qual : Str} {params : Arguments} {body : List Stmt} {scope : Scope} {kws : List (Str × V)} {fd : FuncData} (BB : ExB B bmB newId initId) (T : OexF c f B bmB newId initId K) (F : FunD K "__init__" qual params body scope [] kws (He.fAd K (c, some "__init__")) fd)
    (G : FnOk P w K mg base CX0 1 (He.fAd K (c, some "__init__")) fd ["self", (f : Str)] (spE (He.ga K c) f)) (hm : mg c = some (.ref (He.ga K c))) (h : ∀ (kV doc pm : Value) (an : Option Addr) (cdv ct : Value) (us : List Value), us.length = 2 → bindArgs (PySem.W.fnOf "__init__" qual params body scope .none kV doc pm an cdv ct) ⟨us, []⟩ = pure ((["self", (f : Str)] : List Str).zip us)) :
    ExI P w K mg base c (He.ga K c) f := ⟨bmB, B, newId, initId, _, fd, _, BB, T.g, T.i, T.f, G, F.bindsN h, hm⟩
end
end Tr


set_option Elab.async false
set_option linter.all false
set_option maxRecDepth 100000
set_option maxHeartbeats 0
/-! repr of data, and of the empty dict -/
namespace L2
open PySem PySem.Spec PyProof.Rows
def rReprZ (K : PySem.W.Frag) : List V → Hp → VK → Prop := fun xs H Q => rReprD K xs H Q ∨ ∃ a, xs = [.ref a] ∧ Rd H a (.dK []) ∧ Q (.str "{}") H
section
variable {X : Cx}
end
end L2
namespace Tr
open PySem PySem.Spec PyProof.Rows L2
variable [Tabl]
section
variable {K : PySem.W.Frag}
def reprZ : List T → Option T
  | [.dct [] []] => some (.str "{}")
  | ts => reprD ts
end
end Tr


set_option Elab.async false
set_option linter.all false
set_option maxRecDepth 100000
set_option maxHeartbeats 0
namespace Tr
open PySem PySem.Spec PyProof.Rows L2
variable [Tabl]
/-! ### 26. steps of what raises with a field, of handlers that look at it, of defs that a variable holds -/
section
variable {sl : List Sl} {P : Sl → Prop} {f bk ct : List Sl → Prop} {rt : Sl → Prop} {R : RXs} {r : RX} {a : WA} {C : Addr} {fl : Str} {t : T} {em : Value → Value → Option Bool} {l : List HdW} {w : Addr → Value → Option Addr → WE} {cN : Str → Addr} {N : List Str} {n i : Nat} {x y : Str} {o : XF}
def rfG (R : RXs) (C : Addr) (fl : Str) (sl : List Sl) (xs : List Sl) : Prop := ∃ t, xs = [.val t] ∧ R (.ref C) (some (fl, t)) sl
theorem x_raiseF (h : a sl fun xs => rfG R C fl sl xs) : xRaiseF C fl a R ⟨f, rt, bk, ct⟩ sl := h
theorem x_rfv (h : R (.ref C) (some (fl, t)) sl) : rfG R C fl sl [.val t] := ⟨t, rfl, h⟩
def hdA (em : Value → Value → Option Bool) (n : Nat) (P : Sl → Prop) (l : List HdW) : RX := fun cls o => wHdsA em cls o n P l
theorem x_metA {wf : WE} {wb : WEX} (h : wb (hdA em n P l) sl fun _ => anyW wf P) : wMetA em n l wf wb sl P := h
theorem x_hitA (h : EmOk cN em N) (hx : x ∈ N) (p : ∀ a d, w a (.ref (cN x)) d (List.replicate n .any) P) : hdA em n P ((.ref (cN x), none, w) :: l) (.ref (cN x)) o := ⟨true, by rw [h x hx x hx, decide_eq_true rfl], fun _ => p, fun z => (nomatch z)⟩
theorem x_hitS (h : EmOk cN em N) (hx : x ∈ N) (p : ∀ a d, w a (.ref (cN x)) (some d) ((List.replicate n .any).set i (.val (.exc a d fl t))) P) : hdA em n P ((.ref (cN x), some (i, fl), w) :: l) (.ref (cN x)) (some (fl, t)) := ⟨true, by rw [h x hx x hx, decide_eq_true rfl], fun _ => ⟨t, rfl, p⟩, fun z => (nomatch z)⟩
theorem x_missA {j : Option (Nat × Str)} (h : EmOk cN em N) (hx : x ∈ N) (hy : y ∈ N) (hn : x ≠ y) (p : hdA em n P l (.ref (cN y)) o) : hdA em n P ((.ref (cN x), j, w) :: l) (.ref (cN y)) o := ⟨false, by rw [h y hy x hx, decide_eq_false (fun z => hn z.symm)], fun z => (nomatch z), fun _ => p⟩
theorem x_xf {b d : Addr} (e : nth sl i = .val (.exc b d fl t)) (h : P (.val t)) : wXf b (.ref C) (some d) C i fl sl P := ⟨rfl, d, t, rfl, e, h⟩
def cvG (tbl : List (Str × WFX)) (q : WFX) (r : RX) (P : Sl → Prop) (xs : List Sl) : Prop := xs.all isArg = true ∧ q r xs P
theorem x_cvv {tbl : List (Str × WFX)} {q : WFX} {xs : List Sl} (e : xs.all isArg = true) (h : q r xs P) : cvG tbl q r P xs := ⟨e, h⟩
end
end Tr


set_option Elab.async false
set_option linter.all false
set_option maxRecDepth 100000
set_option maxHeartbeats 0
/-! a loop whose body may raise -/
namespace Tr
open PySem PySem.Spec PyProof.Rows L2
variable [Tabl]
def wForLX (g : Tg) (b : WSX) (R : RXs) (k : Ks) : List T → List Sl → Prop
  | [], sl => k.nx sl
  | t :: r, sl => ∃ sl', g.st t sl = some sl' ∧ b R { nx := fun s => wForLX g b R k r s, ct := fun s => wForLX g b R k r s, bk := k.nx, rt := k.rt } sl'
def xFor (wi : WI) (g : Tg) (b : WSX) : WSX := fun R k sl => wi sl fun ts => wForLX g b R k ts sl
section
variable {K : PySem.W.Frag}
end
section
variable {X : Cx} {W : L2.WX}
theorem x_forX {wi : WI} {g : Tg} {b : WSX} {R : RXs} {k : Ks} {sl : List Sl} (h : wi sl fun ts => wForLX g b R k ts sl) : xFor wi g b R k sl := h
end
end Tr


set_option Elab.async false
set_option linter.all false
set_option maxRecDepth 100000
set_option maxHeartbeats 0
/-! a call whose one argument may raise -/
namespace Tr
open PySem PySem.Spec PyProof.Rows L2
variable [Tabl]
def aOfX (K : PySem.W.Frag) (W : L2.WX) (w : WEX) : TA := fun σ H Q => ∃ F D A sl P R, Sta K F D A H σ sl ∧ w R sl P ∧ (∀ v H' x, Beh D H H' → SlOk K D F.A0 A H' v x → P x → Q [v] H') ∧ ∀ H' cls d o, Beh D H H' → ExcF K A H' d o → R cls o → W cls d σ H'
section
variable {X : Cx} {W : L2.WX} {E : XK}
def xMethA (C : Addr) (m : Str) (wf : WFX) (dts : List T) (o : WE) (a : WEX) : WEX := fun R sl P => o sl fun x => ∃ ns ts, x = .val (.ins C ns ts) ∧ m ∉ ns ∧ a R sl fun y => isArg y = true ∧ wf R (x :: y :: dts.map Sl.val) P
def xCallA (wf : WFX) (dts : List T) (a : WEX) : WEX := fun R sl P => a R sl fun y => isArg y = true ∧ wf R (y :: dts.map Sl.val) P
end
section
variable {sl : List Sl} {P : Sl → Prop} {r : RX} {C : Addr} {m : Str} {wf : WFX} {dts : List T} {o : WE} {a : WEX} {x y : Sl} {ns : List Str} {ts : List T}
def xaG (wf : WFX) (dts : List T) (C : Addr) (m : Str) (a : WEX) (sl : List Sl) (r : RX) (P : Sl → Prop) (x : Sl) : Prop := ∃ ns ts, x = .val (.ins C ns ts) ∧ m ∉ ns ∧ a r sl fun y => isArg y = true ∧ wf r (x :: y :: dts.map Sl.val) P
def xbG (wf : WFX) (dts : List T) (r : RX) (P : Sl → Prop) (x y : Sl) : Prop := isArg y = true ∧ wf r (x :: y :: dts.map Sl.val) P
def xdG (wf : WFX) (dts : List T) (r : RX) (P : Sl → Prop) (y : Sl) : Prop := isArg y = true ∧ wf r (y :: dts.map Sl.val) P
theorem x_methA (h : o sl fun x => xaG wf dts C m a sl r P x) : xMethA C m wf dts o a r sl P := h
theorem x_maI (hm : m ∉ ns) (h : a r sl fun y => xbG wf dts r P (.val (.ins C ns ts)) y) : xaG wf dts C m a sl r P (.val (.ins C ns ts)) := ⟨ns, ts, rfl, hm, h⟩
theorem x_mav (e : isArg y = true) (h : wf r (x :: y :: dts.map Sl.val) P) : xbG wf dts r P x y := ⟨e, h⟩
theorem x_callA (h : a r sl fun y => xdG wf dts r P y) : xCallA wf dts a r sl P := h
theorem x_cav (e : isArg y = true) (h : wf r (y :: dts.map Sl.val) P) : xdG wf dts r P y := ⟨e, h⟩
end
end Tr


set_option Elab.async false
set_option linter.all false
set_option maxRecDepth 100000
set_option maxHeartbeats 0
/-! isinstance(x, tuple), where x may be an instance of an own class -/
namespace Tr
open PySem PySem.Spec PyProof.Rows L2
variable [Tabl]
def IsXD (K : PySem.W.Frag) (C : Addr) (n : String) : Prop := InsD K C ∧ PySem.W.kitOne K (.ref C) (.type n) = some false
def isxB (c n : String) (K : PySem.W.Frag) : Bool := insB c K && decide (PySem.W.kitOne K (.ref (He.ga K c)) (.type n) = some false)
/-- isinstance, an instance of C is none -/
def isiX (C : Addr) (n : String) : T → Option Bool
  | .ins C' _ _ => if C' = C then some false else none
  | x => match isiT [x, .ty n] with
    | some (.bl b) => some b
    | _ => none
section
variable {X : Cx} {K : PySem.W.Frag}
def wIsX (C : Addr) (n : String) (w : WE) : WE := fun sl P => w sl fun x => ∃ t b, x.tree = some t ∧ isiX C n t = some b ∧ P (.val (.bl b))
end
section
variable {sl : List Sl} {P : Sl → Prop} {C : Addr} {n : String} {w : WE} {t : T} {b : Bool} {ns : List Str} {ts : List T}
def ixG (C : Addr) (n : String) (P : Sl → Prop) (x : Sl) : Prop := ∃ t b, x.tree = some t ∧ isiX C n t = some b ∧ P (.val (.bl b))
theorem x_isX (h : w sl fun x => ixG C n P x) : wIsX C n w sl P := h
theorem x_isXi (h : P (.val (.bl false))) : ixG C n P (.val (.ins C ns ts)) := ⟨_, false, rfl, if_pos rfl, h⟩
theorem isX_tup : isiX C "tuple" (.tup ts) = some true := by
  have h : kitB "tuple" "tuple" = some true := by decide +kernel
  simp [isiX, isiT, tyT, h]
theorem isX_of {n : String} {x : T} {b : Bool} (h : kitB (tyT x) n = some b) (hx : isiX C n x = (match isiT [x, .ty n] with
    | some (.bl b) => some b
    | _ => none)) (hy : isiT [x, .ty n] = (kitB (tyT x) n).map fun b => .bl b) : isiX C n x = some b := by
  rw [hx, hy, h]; rfl
theorem x_isXt (h : P (.val (.bl true))) : ixG C "tuple" P (.val (.tup ts)) := ⟨_, true, rfl, isX_tup, h⟩
theorem x_isXl (h : P (.val (.bl false))) : ixG C "tuple" P (.val (.lst ts)) := ⟨_, false, rfl, isX_of (b := false) (by show kitB "list" "tuple" = _; decide +kernel) rfl rfl, h⟩
theorem x_isXn (h : P (.val (.bl false))) : ixG C "tuple" P (.val .non) := ⟨_, false, rfl, isX_of (b := false) (by show kitB "NoneType" "tuple" = _; decide +kernel) rfl rfl, h⟩
theorem x_isXs {z : Str} (h : P (.val (.bl false))) : ixG C "tuple" P (.val (.str z)) := ⟨_, false, rfl, isX_of (b := false) (by show kitB "str" "tuple" = _; decide +kernel) rfl rfl, h⟩
theorem x_isXz {i : Int} (h : P (.val (.bl false))) : ixG C "tuple" P (.val (.int i)) := ⟨_, false, rfl, isX_of (b := false) (by show kitB "int" "tuple" = _; decide +kernel) rfl rfl, h⟩
theorem x_isXb {i : Bool} (h : P (.val (.bl false))) : ixG C "tuple" P (.val (.bl i)) := ⟨_, false, rfl, isX_of (b := false) (by show kitB "bool" "tuple" = _; decide +kernel) rfl rfl, h⟩
theorem x_isXd {ks : List Key} (h : P (.val (.bl false))) : ixG C "tuple" P (.val (.dct ks ts)) := ⟨_, false, rfl, isX_of (b := false) (by show kitB "dict" "tuple" = _; decide +kernel) rfl rfl, h⟩
end
end Tr


set_option Elab.async false
set_option linter.all false
set_option maxRecDepth 100000
set_option maxHeartbeats 0
namespace My
open PySem PySem.Spec PyProof.Rows L2 Tr
def top (i : Nat) : Stmt := PySem.Challenge.pw_wholemoment_k04_whole_deeds_on_pairs.main.body.getD i (.Pass ⟨0, 0, 0, 0⟩)
abbrev s__law_dice : Stmt := top 34
abbrev s_is_key : Stmt := top 18
abbrev s_is_whole : Stmt := top 9
abbrev s_is_within : Stmt := top 10
abbrev s_is_value : Stmt := top 19
abbrev s_is_pairs : Stmt := top 21
abbrev s_need_pairs : Stmt := top 24
abbrev s_are_ascending : Stmt := top 23
abbrev s_is_value_or_none : Stmt := top 20
abbrev s__is_setting : Stmt := top 31
abbrev s_is_deed : Stmt := top 22
abbrev s_need_deed : Stmt := top 25
abbrev s_ascending : Stmt := top 1
abbrev s_done_on : Stmt := top 26
abbrev s_done : Stmt := top 27
abbrev s__need_deeds : Stmt := top 32
abbrev s_behind : Stmt := top 28
abbrev s_unlike_keys : Stmt := top 29
abbrev s__law_ds_unlike : Stmt := top 43
abbrev s_deed_between : Stmt := top 30
abbrev s__law_ds_done : Stmt := top 41
abbrev s__law_ds_states : Stmt := top 42
abbrev s__law_roll : Stmt := top 35
abbrev s__law_shuffled : Stmt := top 37
abbrev s__law_pick : Stmt := top 36
abbrev s__law_ds_value : Stmt := top 39
abbrev s__law_ds_deed : Stmt := top 40
abbrev s__law_ds_keys : Stmt := top 38
abbrev s_TooMany___init__ : Stmt := inClass (top 6) 0
abbrev s__law_between_right : Stmt := top 44
abbrev s__law_right : Stmt := top 45
abbrev s_law : Stmt := top 46
end My


set_option Elab.async false
set_option linter.all false
set_option maxRecDepth 100000
set_option maxHeartbeats 0
namespace My
open PySem PySem.Spec PyProof.Rows L2 Tr
def d0 : He.DefD := ⟨("_law_dice", none), "_law_dice", "_law_dice", defArgs s__law_dice, defBody s__law_dice, defScope s__law_dice, [], []⟩
def d1 : He.DefD := ⟨("is_key", none), "is_key", "is_key", defArgs s_is_key, defBody s_is_key, defScope s_is_key, [], []⟩
def d2 : He.DefD := ⟨("is_whole", none), "is_whole", "is_whole", defArgs s_is_whole, defBody s_is_whole, defScope s_is_whole, [], []⟩
def d3 : He.DefD := ⟨("is_within", none), "is_within", "is_within", defArgs s_is_within, defBody s_is_within, defScope s_is_within, [.int 999999999999999999999999999999999999999999999999999999999999], []⟩
def d4 : He.DefD := ⟨("is_value", none), "is_value", "is_value", defArgs s_is_value, defBody s_is_value, defScope s_is_value, [], []⟩
def d5 : He.DefD := ⟨("is_pairs", none), "is_pairs", "is_pairs", defArgs s_is_pairs, defBody s_is_pairs, defScope s_is_pairs, [], []⟩
def d6 : He.DefD := ⟨("need_pairs", none), "need_pairs", "need_pairs", defArgs s_need_pairs, defBody s_need_pairs, defScope s_need_pairs, [], []⟩
def d7 : He.DefD := ⟨("are_ascending", none), "are_ascending", "are_ascending", defArgs s_are_ascending, defBody s_are_ascending, defScope s_are_ascending, [], []⟩
def d8 : He.DefD := ⟨("is_value_or_none", none), "is_value_or_none", "is_value_or_none", defArgs s_is_value_or_none, defBody s_is_value_or_none, defScope s_is_value_or_none, [], []⟩
def d9 : He.DefD := ⟨("_is_setting", none), "_is_setting", "_is_setting", defArgs s__is_setting, defBody s__is_setting, defScope s__is_setting, [], []⟩
def d10 : He.DefD := ⟨("is_deed", none), "is_deed", "is_deed", defArgs s_is_deed, defBody s_is_deed, defScope s_is_deed, [], []⟩
def d11 : He.DefD := ⟨("need_deed", none), "need_deed", "need_deed", defArgs s_need_deed, defBody s_need_deed, defScope s_need_deed, [], []⟩
def d12 : He.DefD := ⟨("ascending", none), "ascending", "ascending", defArgs s_ascending, defBody s_ascending, defScope s_ascending, [], []⟩
def d13 : He.DefD := ⟨("done_on", none), "done_on", "done_on", defArgs s_done_on, defBody s_done_on, defScope s_done_on, [], []⟩
def d14 : He.DefD := ⟨("done", none), "done", "done", defArgs s_done, defBody s_done, defScope s_done, [], []⟩
def d15 : He.DefD := ⟨("_need_deeds", none), "_need_deeds", "_need_deeds", defArgs s__need_deeds, defBody s__need_deeds, defScope s__need_deeds, [], []⟩
def d16 : He.DefD := ⟨("behind", none), "behind", "behind", defArgs s_behind, defBody s_behind, defScope s_behind, [], []⟩
def d17 : He.DefD := ⟨("unlike_keys", none), "unlike_keys", "unlike_keys", defArgs s_unlike_keys, defBody s_unlike_keys, defScope s_unlike_keys, [], []⟩
def d18 : He.DefD := ⟨("_law_ds_unlike", none), "_law_ds_unlike", "_law_ds_unlike", defArgs s__law_ds_unlike, defBody s__law_ds_unlike, defScope s__law_ds_unlike, [], []⟩
def d19 : He.DefD := ⟨("deed_between", none), "deed_between", "deed_between", defArgs s_deed_between, defBody s_deed_between, defScope s_deed_between, [], []⟩
def d20 : He.DefD := ⟨("_law_ds_done", none), "_law_ds_done", "_law_ds_done", defArgs s__law_ds_done, defBody s__law_ds_done, defScope s__law_ds_done, [], []⟩
def d21 : He.DefD := ⟨("_law_ds_states", none), "_law_ds_states", "_law_ds_states", defArgs s__law_ds_states, defBody s__law_ds_states, defScope s__law_ds_states, [], []⟩
def d22 : He.DefD := ⟨("_law_roll", none), "_law_roll", "_law_roll", defArgs s__law_roll, defBody s__law_roll, defScope s__law_roll, [], []⟩
def d23 : He.DefD := ⟨("_law_shuffled", none), "_law_shuffled", "_law_shuffled", defArgs s__law_shuffled, defBody s__law_shuffled, defScope s__law_shuffled, [], []⟩
def d24 : He.DefD := ⟨("_law_pick", none), "_law_pick", "_law_pick", defArgs s__law_pick, defBody s__law_pick, defScope s__law_pick, [], []⟩
def d25 : He.DefD := ⟨("_law_ds_value", none), "_law_ds_value", "_law_ds_value", defArgs s__law_ds_value, defBody s__law_ds_value, defScope s__law_ds_value, [], []⟩
def d26 : He.DefD := ⟨("_law_ds_deed", none), "_law_ds_deed", "_law_ds_deed", defArgs s__law_ds_deed, defBody s__law_ds_deed, defScope s__law_ds_deed, [], []⟩
def d27 : He.DefD := ⟨("_law_ds_keys", none), "_law_ds_keys", "_law_ds_keys", defArgs s__law_ds_keys, defBody s__law_ds_keys, defScope s__law_ds_keys, [], []⟩
def d28 : He.DefD := ⟨("_law_between_right", none), "_law_between_right", "_law_between_right", defArgs s__law_between_right, defBody s__law_between_right, defScope s__law_between_right, [], []⟩
def d29 : He.DefD := ⟨("_law_right", none), "_law_right", "_law_right", defArgs s__law_right, defBody s__law_right, defScope s__law_right, [], []⟩
def d30 : He.DefD := ⟨("law", none), "law", "law", defArgs s_law, defBody s_law, defScope s_law, [], []⟩
def d31 : He.DefD := ⟨("TooMany", some "__init__"), "__init__", "TooMany.__init__", defArgs s_TooMany___init__, defBody s_TooMany___init__, defScope s_TooMany___init__, [], []⟩
def fn : List He.DefD := [d0, d1, d2, d3, d4, d5, d6, d7, d8, d9, d10, d11, d12, d13, d14, d15, d16, d17, d18, d19, d20, d21, d22, d23, d24, d25, d26, d27, d28, d29, d30, d31]
def fa : List He.Fa := [.glo "_law_dice", .glo "is_key", .glo "is_whole", .glo "is_within", .glo "is_value", .glo "is_pairs", .glo "need_pairs", .glo "are_ascending", .glo "is_value_or_none", .glo "_is_setting", .glo "is_deed", .glo "need_deed", .glo "ascending", .glo "done_on", .glo "done", .glo "_need_deeds", .glo "behind", .glo "unlike_keys", .glo "_law_ds_unlike", .glo "deed_between", .glo "_law_ds_done", .glo "_law_ds_states", .glo "_law_roll", .glo "_law_shuffled", .glo "_law_pick", .glo "_law_ds_value", .glo "_law_ds_deed", .glo "_law_ds_keys", .glo "_law_between_right", .glo "_law_right", .glo "law", .free "abs", .free "int", .free "max", .free "len", .int "MOST_KEY" 8, .free "isinstance", .free "str", .free "all", .str "_LETTERS" "abcdefghijklmnopqrstuvwxyz", .free "bool", .int "MOST_WHOLE" 999999999999999999999999999999999999999999999999999999999999, .int "MOST_VALUE" 999999999999, .int "MOST_KEYS" 10000, .free "dict", .free "zip", .free "tuple", .int "MOST_SET" 6, .free "sorted", .int "MOST_DEEDS" 1500, .free "set", .free "list", .glo "TooMany", .free "range", .free "enumerate", .free "min", .glo "InvalidValue", .glo "InvalidDeed", .free "OverflowError"]
def lamT (K : PySem.W.Frag) : List (Addr × Str) := []
def tabsNd (K : PySem.W.Frag) : Bool := decide ((lamT K).map Prod.fst).Nodup
def ex (K : PySem.W.Frag) : Bool := (xfdB "TooMany" "limit" K && (exB "InvalidValue" K && (exB "InvalidDeed" K && (oexB "TooMany" "limit" "OverflowError" bmOverflowError "OverflowError.__new__" "OverflowError.__init__" K && (emB ["TooMany"] K && (tabsNd K && true))))))
def tbs : List He.Tab := []
def tf : List He.Defn := []
abbrev R : PySem.W.OpenRow := PySem.W.OpenLaw.row PySem.Challenge.rw_wholemoment_k04_whole_deeds_on_pairs
abbrev hk : PySem.W.Hook := He.hookX 6 fa fn tbs tf ex
def ob (s : PySem.W.SharedT) : He.AlX := He.obsX 6 fa fn tbs tf ex (HandSHeadRun.getT s)
theorem ob_eq (s : PySem.W.SharedT) : ob s = hk.obs s.abs := He.obsX_eq (HandSHeadRun.getT_eq s)
def loose : List PySem.Str := [("ascending" : PySem.Str), ("MomentError" : PySem.Str), ("InvalidValue" : PySem.Str), ("InvalidDeed" : PySem.Str), ("TooMany" : PySem.Str), ("MOST_WHOLE" : PySem.Str), ("is_whole" : PySem.Str), ("is_within" : PySem.Str), ("MOST_KEY" : PySem.Str), ("MOST_VALUE" : PySem.Str), ("MOST_SET" : PySem.Str), ("MOST_KEYS" : PySem.Str), ("MOST_DEEDS" : PySem.Str), ("_LETTERS" : PySem.Str), ("is_key" : PySem.Str), ("is_value" : PySem.Str), ("is_value_or_none" : PySem.Str), ("is_pairs" : PySem.Str), ("is_deed" : PySem.Str), ("are_ascending" : PySem.Str), ("need_pairs" : PySem.Str), ("need_deed" : PySem.Str), ("done_on" : PySem.Str), ("done" : PySem.Str), ("behind" : PySem.Str), ("unlike_keys" : PySem.Str), ("deed_between" : PySem.Str), ("_is_setting" : PySem.Str), ("_need_deeds" : PySem.Str), ("_law_dice" : PySem.Str), ("_law_roll" : PySem.Str), ("_law_pick" : PySem.Str), ("_law_shuffled" : PySem.Str), ("_law_ds_keys" : PySem.Str), ("_law_ds_value" : PySem.Str), ("_law_ds_deed" : PySem.Str), ("_law_ds_done" : PySem.Str), ("_law_ds_states" : PySem.Str), ("_law_ds_unlike" : PySem.Str), ("_law_between_right" : PySem.Str), ("_law_right" : PySem.Str)]
theorem run (w : World) : HandSHeadRun.RunEq R (PySem.W.view R.prog [46]) hk ob 9000 loose w := by
  intro os
  kernel_rfl
end My
section
open PySem PySem.W PySem.Calls PyProof.Rows
def My.WalkF : Prop := ∀ (w : PySem.World) (mg : PySem.Str → Option PySem.Value) (fa : PySem.Addr) (h : PySem.Heap), My.hk.says w h → h.Ns PySem.mainGlobals mg → mg (HandSHeadRun.topDef (OpenLaw.row PySem.Challenge.rw_wholemoment_k04_whole_deeds_on_pairs).prog 46).name = some (.ref fa) → ∃ K : PySem.W.Frag, PySem.W.Frag.In K h ∧ L2.LawAtG PySem.Challenge.rw_wholemoment_k04_whole_deeds_on_pairs w K L2.CX0 11 63 "script" mg fa h
theorem My.early (F : My.WalkF) : PySem.Challenge.rw_wholemoment_k04_whole_deeds_on_pairs.Holds := by
  w_on; o_law
  refine HandSHeadRun.head_any (r := OpenLaw.row PySem.Challenge.rw_wholemoment_k04_whole_deeds_on_pairs) (q := view (OpenLaw.row PySem.Challenge.rw_wholemoment_k04_whole_deeds_on_pairs).prog [46]) (H := My.hk) (ob := My.ob) (M := 9000) (loose := My.loose) (d := HandSHeadRun.topDef (OpenLaw.row PySem.Challenge.rw_wholemoment_k04_whole_deeds_on_pairs).prog 46) (kwd := []) My.ob_eq
    (by kernel_rfl) (fun s => by kernel_rfl) My.run (by kernel_rfl) (by kernel_rfl) (by kernel_rfl) (by rfl) (by first | assumption | decide +kernel) (by decide +kernel) ⟨rfl, rfl, rfl, rfl, rfl, by decide +kernel⟩ ?hw ?hc
  case hw => w_witness2
  case hc =>
    exact L2.walk_ofTG (l := PySem.Challenge.rw_wholemoment_k04_whole_deeds_on_pairs) (n := 63) (k := 11) (x := "script") (CX := fun _ => L2.CX0) rfl (by decide) (by kernel_rfl) ⟨rfl, by decide, by decide⟩ F (fun _ _ _ _ _ z => z)
end


set_option Elab.async false
set_option linter.all false
set_option maxRecDepth 100000
set_option maxHeartbeats 0
/-! sets of keys (whole numbers and texts), told with all that a walk wants: add, set(xs), sorted(set(xs)) -/
namespace SG
open PySem PySem.Spec PyProof.Rows L2
theorem paired_perm {α β : Type} {R : α → β → Prop} : ∀ {as as' : List α}, as'.Perm as → ∀ {bs : List β}, Paired R as bs → ∃ bs', Paired R as' bs' ∧ bs'.Perm bs := by
  intro as as' p
  induction p with
  | nil => intro bs h; exact ⟨bs, h, .refl _⟩
  | cons x _ ih =>
    intro bs h
    cases h with
    | cons r t =>
      obtain ⟨bs', h1, h2⟩ := ih t
      exact ⟨_ :: bs', .cons r h1, h2.cons _⟩
  | swap x y l =>
    intro bs h
    cases h with
    | cons r t =>
      cases t with
      | cons r2 t2 => exact ⟨_ :: _ :: _, .cons r2 (.cons r t2), .swap _ _ _⟩
  | trans _ _ ih1 ih2 =>
    intro bs h
    obtain ⟨b1, h1, p1⟩ := ih2 h
    obtain ⟨b2, h2, p2⟩ := ih1 h1
    exact ⟨b2, h2, p2.trans p1⟩
theorem paired_mem {α β : Type} {R : α → β → Prop} : ∀ {as : List α} {bs : List β}, Paired R as bs → ∀ a ∈ as, ∃ b ∈ bs, R a b
  | _, _, .nil, a, h => by cases h
  | _, _, .cons r t, a, h => by
    rcases List.mem_cons.mp h with e | e
    · exact ⟨_, List.mem_cons_self, e ▸ r⟩
    · obtain ⟨b, h1, h2⟩ := paired_mem t a e
      exact ⟨b, List.mem_cons_of_mem _ h1, h2⟩
theorem paired_mem' {α β : Type} {R : α → β → Prop} : ∀ {as : List α} {bs : List β}, Paired R as bs → ∀ b ∈ bs, ∃ a ∈ as, R a b
  | _, _, .nil, a, h => by cases h
  | _, _, .cons r t, a, h => by
    rcases List.mem_cons.mp h with e | e
    · exact ⟨_, List.mem_cons_self, e ▸ r⟩
    · obtain ⟨b, h1, h2⟩ := paired_mem' t a e
      exact ⟨b, List.mem_cons_of_mem _ h1, h2⟩
section
variable {P : Program} {w : World} {κ : Type} [DecidableEq κ]
/-- an element of a set and its key -/
def Elt (knd : PySem.KeyKind P w κ) (e : Int × Value) (k : κ) : Prop := (knd.is k e.2 = true ∧ e.1 = knd.hash k) ∧ e.2.scannable = true
/-- the table of a set that can be walked -/
structure Tbl (w : World) (es : Array (Int × Value)) (t : SetTable) : Prop where
  few : es.size < scanBound
  fits : t.fits es.size = true
  ris : Ris t.place.toList
  led : w.params.followText "set-order" = true ∨ t.led = true
def SetG (knd : PySem.KeyKind P w κ) (h : Heap) (a : Addr) (ks : List κ) : Prop :=
  ∃ o es ep t L, h.get? a = some o ∧ o.ExactSet ∧ o.data = .set es ep t ∧ Paired (Elt knd) es.toList L ∧ L.Perm ks ∧ ks.Nodup ∧ Tbl w es t
variable {knd : PySem.KeyKind P w κ} {h h' : Heap} {a : Addr} {ks : List κ}
theorem SetG.keep (R : SetG knd h a ks) (k : ∀ o, h.get? a = some o → h'.get? a = some o) : SetG knd h' a ks := by
  obtain ⟨o, es, ep, t, L, e, r⟩ := R
  exact ⟨o, es, ep, t, L, k o e, r⟩
theorem elems {es : List (Int × Value)} {L : List κ} (p : Paired (Elt knd) es L) : ElemsOf knd es := fun e he => by
  obtain ⟨k, _, q⟩ := paired_mem p e he
  exact ⟨⟨k, q.1⟩, q.2⟩
theorem SetG.is (R : SetG knd h a ks) {s : Shared} (e : s.heap = h) : s.TypeIs (.ref a) "set" := by
  obtain ⟨o, es, ep, t, L, ho, hx, _⟩ := R
  exact ⟨o, by rw [e]; exact ho, hx.1⟩
theorem new_set (h : Heap) : SetG knd (h.push (SL.set0 w)) h.objs.size [] :=
  ⟨_, #[], 0, _, [], Heap.get?_push_size _ rfl, ⟨rfl, rfl, rfl⟩, rfl, .nil, .refl _, .nil, by unfold scanBound; decide, by rfl, .nil, by
    by_cases z : w.params.followText "set-order" = true
    · exact .inl z
    · exact .inr (show (!w.params.followText "set-order") = true by rw [Bool.not_eq_true] at z; rw [z]; rfl)⟩
end
section
variable {P : Program} {w : World} {κ : Type} [DecidableEq κ] {knd : PySem.KeyKind P w κ} {A : Around} {E : Value → Shared → Prop} {s : Shared} {a : Addr} {ks : List κ}
/-- the rows behind the new element: laid down, and laid anew where the table is too full -/
theorem lay_down {give : Bool → Sem Unit} (hg : ∀ (b : Bool) (s1 : Shared) (Q : Unit → Shared → Prop), Q () s1 → wpAny (model P w) A (give b) Q E s1) {o : Obj} {es es1 : Array (Int × Value)} {ep : Nat} {t t2 : SetTable} {L1 : List κ}
    (ho : s.heap.get? a = some o) (hx : o.ExactSet) (hd : o.data = .set es ep t) (pr : Paired (Elt knd) es1.toList L1) (nd : L1.Nodup) (tb : Tbl w es1 t2) {was : Bool} {R : Option Bool → Shared → Prop}
    (hR : ∀ h', Heap.SameBut a s.heap h' → SetG knd h' a L1 → R (some true) { s with heap := h' }) :
    wpAny (model P w) A (storeSet a es1 t2 >>= fun _ => if (!was && t2.tooFull) = true then give (relayAll t2 es1 (SetTable.grown es1.size)).2.2 >>= fun _ => storeSet a (relayAll t2 es1 (SetTable.grown es1.size)).1 (relayAll t2 es1 (SetTable.grown es1.size)).2.1 >>= fun _ => pure (some true) else pure (some true)) R E s := by
  have sb := Heap.SameBut.update s.heap a (Obj.putSet es1 t2)
  have o1 := store_at (es' := es1) (t' := t2) ho hd
  refine wpAny_bind (wpAny_storeSet_of ho hd ?_ (fits_of_scanBound tb.few))
  by_cases full : (!was && t2.tooFull) = true
  · rw [if_pos full]
    have f1 := relayAll_perm t2 es1 (SetTable.grown es1.size)
    have f2 := relayAll_fits t2 es1 (SetTable.grown es1.size)
    have f3 := relayAll_ris t2 es1 (SetTable.grown es1.size)
    have f4 := relayAll_led t2 es1 (SetTable.grown es1.size)
    refine wpAny_bind (hg _ _ _ ?_)
    generalize relayAll t2 es1 (SetTable.grown es1.size) = Y at f1 f2 f3 f4 ⊢
    obtain ⟨es3, t3, y⟩ := Y
    have sz : es3.size = es1.size := by
      have := f1.length_eq
      simpa using this
    obtain ⟨L3, p3, q3⟩ := paired_perm f1 pr
    have few : es3.size < scanBound := sz ▸ tb.few
    refine wpAny_bind (wpAny_storeSet_of o1 rfl ?_ (fits_of_scanBound few))
    exact wpAny_pure (hR _ (sb.trans (Heap.SameBut.update _ a _)) ⟨_, es3, _, t3, L3, store_at o1 rfl, hx, rfl, p3, q3, nd, few, f2, f3, tb.led.imp id fun z => f4.trans z⟩)
  · rw [if_neg full]
    exact wpAny_pure (hR _ sb ⟨_, es1, _, t2, L1, o1, hx, rfl, pr, .refl _, nd, tb⟩)
theorem add_hashed {k : κ} {x : Value} {Q : Bool → Shared → Prop} (R : SetG knd s.heap a ks) (hk : knd.is k x = true) (hs : x.scannable = true) (room : ks.length + 1 < scanBound)
    (hQ : ∀ h', Heap.SameBut a s.heap h' → SetG knd h' a (SK.stepD ks k) → Q (!decide (k ∈ ks)) { s with heap := h' }) : wpAny (model P w) A (setAddHashed a x (knd.hash k)) Q E s := by
  obtain ⟨o, es, ep, t, L, ho, hx, hd, pr, pm, nd, tb⟩ := id R
  have el := elems pr
  have hsz : es.size = ks.length := by rw [← pm.length_eq, ← Paired.length pr, Array.length_toList]
  unfold setAddHashed setAddHashedIn
  refine wpAny_holding (wpAny_bind (wpAny_setState_of ho hd tb.fits ?_))
  dsimp only
  rw [byScan_of hs tb.few el, if_pos rfl]
  unfold setAddByScan
  refine wpAny_bind (wpAny_bind (wpAny_rule (wpAny_bind (wpAny_setScan_of hk ho hd tb.fits el ?_))))
  cases hf : List.findIdx? (fun e => knd.is k e.2) es.toList with
  | some j =>
    obtain ⟨hj, pj, _⟩ := List.findIdx?_eq_some_iff_getElem.mp hf
    obtain ⟨k2, h2, r2⟩ := paired_mem pr _ (List.getElem_mem hj)
    have hm : k ∈ ks := by
      have e : k2 = k := knd.inj _ _ _ r2.1.1 pj
      exact pm.mem_iff.mp (e ▸ h2)
    have q := hQ s.heap (Heap.SameBut.refl a s.heap) (by unfold SK.stepD; rw [if_pos hm]; exact R)
    rw [decide_eq_true hm] at q
    exact wpAny_pure (wpAny_pure q)
  | none =>
    have hm : k ∉ ks := fun z => by
      obtain ⟨e, he, r⟩ := paired_mem' pr k (pm.mem_iff.mpr z)
      have := List.findIdx?_eq_none_iff.mp hf e he
      rw [r.1.1] at this
      cases this
    have g0 : ∀ (b : Bool) (s1 : Shared) (Q1 : Unit → Shared → Prop), Q1 () s1 → wpAny (model P w) A (match b with | true => rule "set.scan.the-table-gave-way" | false => pure ()) Q1 E s1 := fun b s1 Q1 q => by
      cases b
      · exact wpAny_pure q
      · exact wpAny_rule q
    have f1 := layNew_perm t es (knd.hash k) x
    have f2 := layNew_fits t es (knd.hash k) x
    have f3 := layNew_ris t es (knd.hash k) x tb.ris
    have f4 := layNew_led t es (knd.hash k) x
    generalize layNew t es (knd.hash k) x = Y at f1 f2 f3 f4 ⊢
    obtain ⟨es1, t1, was, gave⟩ := Y
    dsimp only at f1 f2 f3 f4 ⊢
    rw [Array.toList_push] at f1
    have pr1 : Paired (Elt knd) (es.toList ++ [(knd.hash k, x)]) (L ++ [k]) := by
      clear hsz el hf hd tb f1 f2 f3 f4 pm
      generalize es.toList = l at pr
      induction pr with
      | nil => exact .cons ⟨⟨hk, rfl⟩, hs⟩ .nil
      | cons r _ ih => exact .cons r ih
    obtain ⟨L1, pr2, pm2⟩ := paired_perm f1 pr1
    have nd1 : L1.Nodup := pm2.nodup_iff.mpr ((List.perm_append_singleton k L).nodup_iff.mpr (List.nodup_cons.mpr ⟨fun z => hm (pm.mem_iff.mp z), pm.nodup_iff.mpr nd⟩))
    have few1 : es1.size < scanBound := by
      have := f1.length_eq
      rw [List.length_append, Array.length_toList, Array.length_toList, List.length_singleton] at this
      omega
    have led1 : w.params.followText "set-order" = true ∨ t1.led = true := tb.led.imp id fun z => f4.trans z
    have fin : ∀ h', Heap.SameBut a s.heap h' → SetG knd h' a L1 → Q true { s with heap := h' } := fun h' sb r => by
      have q := hQ h' sb (by
        unfold SK.stepD
        rw [if_neg hm]
        obtain ⟨o', es', ep', t', L', z1, z2, z3, z4, z5, z6, z7⟩ := r
        have pq : L1.Perm (ks ++ [k]) := pm2.trans (pm.append_right [k])
        exact ⟨o', es', ep', t', L', z1, z2, z3, z4, z5.trans pq, pq.nodup_iff.mp z6, z7⟩)
      rw [decide_eq_false hm] at q
      exact q
    refine wpAny_bind (g0 _ _ _ ?_)
    by_cases pl : t1.plain = true
    · rw [if_pos pl]
      refine wpAny_bind ?_
      rw [hashByValue_scannable 8 hs]
      refine wpAny_pure (lay_down g0 ho hx hd pr2 nd1 ?_ fun h' sb r => wpAny_pure (fin h' sb r))
      by_cases b : plainKind x = true
      · rw [if_pos b]; exact ⟨few1, f2, f3, led1⟩
      · rw [if_neg b]; exact ⟨few1, SetTable.fits_plain_off f2, f3, led1⟩
    · rw [if_neg pl]
      refine wpAny_bind (wpAny_pure ?_)
      rw [if_pos rfl]
      exact lay_down g0 ho hx hd pr2 nd1 ⟨few1, f2, f3, led1⟩ fun h' sb r => wpAny_pure (fin h' sb r)
end
end SG


set_option Elab.async false
set_option linter.all false
set_option maxRecDepth 100000
set_option maxHeartbeats 0
namespace SG
open PySem PySem.Spec PyProof.Rows L2
section
variable {prog : Program} {w : World} {A : Around} {R : Result → Shared → Prop} {I : Addr} {fp wr : List Addr} {G : Array GenState → Array GenState → Prop} {n : Nat} {Pv : Nat → Value → Prop} {St : Nat → Shared → Prop} {κ : Type} [DecidableEq κ]
theorem firstsN_len (val : Nat → κ) (i : Nat) : (SK.firstsN val i).length ≤ i := SK.firstsN_len val i
/-- the loop of set.update over anything that is walked -/
theorem update (knd : PySem.KeyKind prog w κ) (W : WalksS prog w A.in1 I fp wr G n Pv St) (S : Addr) (out : S ∉ fp) (val : Nat → κ) (hv : ∀ i v, Pv i v → knd.is (val i) v = true ∧ v.scannable = true) (few : n + 1 < scanBound) (m : Nat) :
    ∀ (i : Nat) (s : Shared), i + m = n → St i s → SetG knd s.heap S (SK.firstsN val i) → (∀ u, Moved (S :: wr) G s u → SetG knd u.heap S (SK.firstsN val n) → R (.ok (.ret .none)) u) → codeAny (model prog w) A (.builtin "set.update.loop" ⟨[.ref S, .ref I], []⟩) R s := by
  have outw : S ∉ wr := fun z => out (W.sub _ z)
  have more : ∀ b ∈ wr, b ∈ S :: wr := fun b z => List.mem_cons_of_mem _ z
  induction m with
  | zero =>
    intro i s e hst hS fin
    obtain rfl : i = n := e
    refine codeAny_builtin F.entry_set_update_loop ?_
    rw [Around.under_plainId F.plain_set_update_loop _]
    change wpAny _ A.in1 (pyNext (.ref I) >>= _) _ _ s
    refine wpAny_bind (W.done s _ _ hst fun u mv => ?_)
    change wpAny _ A.in1 (ret Value.none) _ _ u
    exact wpAny_pure (fin u (mv.mono more) (hS.keep fun o q => mv.heap S o outw q))
  | succ m ih =>
    intro i s e hst hS fin
    refine codeAny_builtin F.entry_set_update_loop ?_
    rw [Around.under_plainId F.plain_set_update_loop _]
    change wpAny _ A.in1 (pyNext (.ref I) >>= _) _ _ s
    refine wpAny_bind (W.item i s _ _ (by omega) hst fun v u hP hst2 mv => ?_)
    obtain ⟨q1, q2⟩ := hv i v hP
    have hS2 : SetG knd u.heap S (SK.firstsN val i) := hS.keep fun o q => mv.heap S o outw q
    change wpAny _ A.in1 (holding [v] (setAdd S v) >>= _) _ _ u
    unfold setAdd
    refine wpAny_bind (wpAny_holding (wpAny_holding (wpAny_bind (knd.pyHash (k := val i) q1 (add_hashed (s := { u with toks := u.toks + 1 }) hS2 q1 q2 (by have := SK.firstsN_len val i; omega) fun g sb hS3 => wpAny_pure ⟨plainId_quiet F.plain_set_update_loop _, ?_⟩)))))
    refine ih (i + 1) _ (by omega) (W.frame _ u _ _ hst2 (Nat.le_succ _) fun b hb o q => ?_) hS3 fun u2 mv2 hS4 => fin u2 (Moved.trans W.gtrans ((mv.mono more).then_heap (Nat.le_succ _) fun b o hb q => ?_) mv2) hS4
    · rw [sb.2 b fun z => out (z ▸ hb)]; exact q
    · rw [sb.2 b fun z => hb (z ▸ List.mem_cons_self)]; exact q
end
section
variable {P : Program} {w : World} {A : Around} {E : Value → Shared → Prop} {s : Shared} {κ : Type} [DecidableEq κ]
/-- set(xs), xs a list of keys -/
theorem made (knd : PySem.KeyKind P w κ) {l : Addr} {xs : Array Value} (ks : List κ) (d : κ) {Q : Value → Shared → Prop} (calm : A.handled = none) (isL : s.heap.IsList l xs) (hn : xs.size = ks.length)
    (hx : ∀ (i : Nat) (v : Value), xs[i]? = some v → knd.is (ks.getD i d) v = true ∧ v.scannable = true) (few : ks.length + 1 < scanBound)
    (q : ∀ (g : Heap) (k : Nat), SetG knd g s.heap.objs.size (SK.firsts ks) → (∀ b o, s.heap.get? b = some o → g.get? b = some o) → Q (.ref s.heap.objs.size) { s with heap := g, toks := k }) : wpAny (model P w) A (call (.type "set") [.ref l]) Q E s := by
  refine SL.call_two (M := fun ob t => ob = .ref s.heap.objs.size ∧ t = { s with heap := s.heap.push (SL.set0 w) }) PySem.F.called_set (PySem.F.typeCall_set_1 _) (L2.code_set_led1 _ ⟨rfl, rfl⟩) ?_
  rintro ob t ⟨rfl, rfl⟩
  have now : (s.heap.push (SL.set0 w)).get? s.heap.objs.size = some (SL.set0 w) := Heap.get?_push_size _ rfl
  have isS : Shared.TypeIs { s with heap := s.heap.push (SL.set0 w) } (.ref s.heap.objs.size) "set" := ⟨_, now, rfl⟩
  refine ⟨isS, codeAny_call_builtin PySem.F.called_set.init.plain PySem.F.entry_set_init (check_set_init_1 isS ?_)⟩
  have L1 : (s.heap.push (SL.set0 w)).IsList l xs := isL.push _
  have lS : l < s.heap.objs.size := let ⟨_, ho, _⟩ := isL; Heap.lt_size ho
  obtain ⟨⟨oc, od, dt, sl⟩, ho, hc, n, hd⟩ := id L1
  simp only at hc hd
  subst hc hd
  have f1 := PySem.F.sub_list_set
  have f2 := PySem.F.sub_list_frozenset
  have f3 : (Value.type "list" == Value.type "dict") = false := by decide
  unfold Builtin.«set.__init__» noKeywords Builtin.Frozenset.updateFrom
  generalize hI : pyIter = it
  wp_walk
  subst hI
  refine wpAny_pyIter_list L1 (wpAny_bind (wpAny_runValue ?_))
  have hz : (s.heap.push (SL.set0 w)).objs.size = s.heap.objs.size + 1 := Heap.size_push ..
  have c3 : A.in1.in1.in1.handled = none := by simp [calm]
  have ne : l ≠ (s.heap.push (SL.set0 w)).objs.size := Nat.ne_of_lt (hz ▸ Nat.lt_succ_of_lt lS)
  have out : s.heap.objs.size ∉ [(s.heap.push (SL.set0 w)).objs.size, l] := fun z => by
    simp only [List.mem_cons, List.not_mem_nil, or_false] at z
    exact z.elim (fun z => Nat.succ_ne_self _ (hz.symm.trans z.symm)) fun z => Nat.ne_of_gt lS z
  have S0 : SetG knd ((s.heap.push (SL.set0 w)).push { cls := .type "list_iterator", data := .fields #[.ref l, .int 0 0] }) s.heap.objs.size (SK.firstsN (fun i => ks.getD i d) 0) := (new_set s.heap).keep fun o e => Heap.get?_push_of_some _ e
  refine update knd (Walks.list c3 _ l ne xs).toS s.heap.objs.size out (fun i => ks.getD i d) hx (by omega) xs.size 0 _ (Nat.zero_add _) ⟨⟨_, Heap.get?_push_size _ rfl, rfl, rfl⟩, L1.push _⟩ S0 fun t m hS => ?_
  obtain ⟨g, g2, dr, k, o⟩ := t
  obtain rfl : g2 = s.gens := m.gens
  obtain rfl : dr = s.drawn := m.drawn
  obtain rfl : o = s.os := m.os
  rw [hn, SK.firstsN_list ks d ks.length (Nat.le_refl _), List.take_length] at hS
  refine wpAny_pure (wpAny_pure ⟨rfl, q g k hS fun b u e => ?_⟩)
  have hb := Heap.lt_size e
  refine m.heap b u (fun z => ?_) (Heap.get?_push_of_some _ (Heap.get?_push_of_some _ e))
  simp only [List.mem_cons, List.not_mem_nil, or_false] at z
  exact z.elim (fun z => Nat.ne_of_lt hb z) fun z => Nat.ne_of_lt (Nat.lt_succ_of_lt hb) (z.trans hz)
end
/-! texts in their order -/
def strLe (a b : Str) : Bool := decide (a.cps.toList ≤ b.cps.toList)
def sortS (zs : List Str) : List Str := (SK.firsts zs).mergeSort strLe
theorem strLe_trans (a b c : Str) (h1 : strLe a b = true) (h2 : strLe b c = true) : strLe a c = true := decide_eq_true (List.le_trans (of_decide_eq_true h1) (of_decide_eq_true h2))
theorem strLe_total (a b : Str) : (strLe a b || strLe b a) = true := by
  unfold strLe
  rw [Bool.or_eq_true, decide_eq_true_iff, decide_eq_true_iff]
  exact List.le_total _ _
theorem strLe_anti {a b : Str} (h1 : strLe a b = true) (h2 : strLe b a = true) : a = b := by
  have e := List.le_antisymm (of_decide_eq_true h1) (of_decide_eq_true h2)
  obtain ⟨a⟩ := a
  obtain ⟨b⟩ := b
  have : a.toList = b.toList := e
  rw [Array.toList_inj.mp this]
theorem sorted_perm {as bs : List Str} (p : as.Perm bs) (ha : as.Pairwise fun a b => strLe a b = true) (hb : bs.Pairwise fun a b => strLe a b = true) : as = bs := p.eq_of_pairwise (fun a b _ _ h1 h2 => strLe_anti h1 h2) ha hb
theorem sorted_ms (as : List Str) : (as.mergeSort strLe).Pairwise fun a b => strLe a b = true := List.pairwise_mergeSort strLe_trans strLe_total as
theorem ms_perm {as bs : List Str} (p : as.Perm bs) : as.mergeSort strLe = bs.mergeSort strLe := sorted_perm ((List.mergeSort_perm _ _).trans (p.trans (List.mergeSort_perm _ _).symm)) (sorted_ms _) (sorted_ms _)
theorem dataLe_s : PySem.W.dataLe false PyData.str = strLe := PySem.W.dataLe_str id
theorem sortS_perm (zs : List Str) : (sortS zs).Perm (SK.firsts zs) := List.mergeSort_perm _ _
theorem mem_sortS {zs : List Str} {z : Str} : z ∈ sortS zs ↔ z ∈ zs := (sortS_perm zs).mem_iff.trans SK.mem_firsts
theorem sortS_nodup (zs : List Str) : (sortS zs).Nodup := (sortS_perm zs).nodup_iff.mpr (SK.nodup_firsts zs)
theorem sortS_sorted (zs : List Str) : (sortS zs).Pairwise fun a b => strLe a b = true := sorted_ms _
theorem sortS_len (zs : List Str) : (sortS zs).length ≤ zs.length := by rw [(sortS_perm zs).length_eq]; exact SK.firsts_len zs
/-- the one list: members, each once, in their order -/
theorem sortS_one {zs ws : List Str} (hm : ∀ z, z ∈ ws ↔ z ∈ zs) (nd : ws.Nodup) (hs : ws.Pairwise fun a b => strLe a b = true) : sortS zs = ws :=
  sorted_perm ((List.perm_ext_iff_of_nodup (sortS_nodup zs) nd).mpr fun z => mem_sortS.trans (hm z).symm) (sortS_sorted zs) hs
end SG


set_option Elab.async false
set_option linter.all false
set_option maxRecDepth 100000
set_option maxHeartbeats 0
namespace SG
open PySem PySem.Spec PyProof.Rows L2
theorem is_str {P : Program} {w : World} {z : Str} {v : Value} (h : (PySem.strKind P w).is z v = true) : ∃ t, v = .str z t := by
  cases v <;> first | (cases h; done) | skip
  rename_i y t
  have e : (y == z) = true := h
  exact ⟨t, by rw [eq_of_beq e]⟩
section
variable {P : Program} {w : World} {A : Around} {E : Value → Shared → Prop} {s : Shared}
theorem each_perm {β : Type} {R : Value → β → Prop} {vs : List Value} {bs : List β} (p : Paired R vs bs) : PySem.W.EachIs R vs bs := by
  induction p with
  | nil => exact .nil
  | cons r _ ih => exact .cons r ih
theorem paired_map {P : Program} {w : World} {es : List (Int × Value)} {L : List Str} (p : Paired (Elt (PySem.strKind P w)) es L) : Paired (fun (v : Value) (z : Str) => ∃ t, v = .str z t) (es.map (·.2)) L := by
  induction p with
  | nil => exact .nil
  | cons r _ ih => exact .cons (is_str r.1.1) ih
/-- sorted(d), d a set of texts -/
theorem sorted_at {a : Addr} {zs : List Str} {Q : Value → Shared → Prop} (R : SetG (PySem.strKind P w) s.heap a zs) (hh : A.handled = none) (hu : A.units + 64 < cLine)
    (hQ : ∀ u p (out : List Value) (c : Nat), (∀ b o, s.heap.get? b = some o → u.heap.get? b = some o) → u.gens = s.gens → u.os = s.os → s.heap.objs.size ≤ p → u.heap.get? p = some (seqObj "list" out.toArray c) →
      PySem.W.EachIs (fun (v : Value) (z : Str) => ∃ t, v = .str z t) out (zs.mergeSort strLe) → Q (.ref p) u) : wpAny (model P w) A (call (.builtin "sorted") [.ref a]) Q E s := by
  obtain ⟨o, es, ep, t, L, ho, hx, hd, pr, pm, nd, tb⟩ := R
  refine Calls.call_function_entry kind_sorted plain_sorted entry_sorted (args_sorted1 _) ?_
  unfold Builtin.«sorted»
  refine wpAny_bind (m := checkCount "sorted" 1 1 _) (wpAny_pure (wpAny_bind (collect_set (A := A.in1) hh ⟨o, ho, hx.1, hd⟩ tb.fits tb.few tb.ris tb.led fun s1 vs k1 hz g1 o1 pv => ?_)))
  obtain ⟨L1, p1, q1⟩ := paired_perm pv (paired_map pr)
  have hl : vs.length = L1.length := Paired.length p1
  have few : vs.length ≤ sizeLine := by
    rw [pv.length_eq, List.length_map, Array.length_toList]
    exact fits_of_scanBound tb.few
  refine wpAny_bind (wpAny_newList ?_ few)
  have hD : (s1.heap.push { cls := .type "list", data := .seq vs.toArray }).get? s1.heap.objs.size = some (seqObj "list" vs.toArray 0) := Heap.get?_push_size _ rfl
  have ea := each_perm p1
  refine wpAny_bind (wpAny_holding (wpAny_mono (PySem.W.list_sort_data (n := 0) (s := { s1 with heap := s1.heap.push { cls := .type "list", data := .seq vs.toArray } }) (R := fun (v : Value) (z : Str) => ∃ t, v = .str z t) (enc := PyData.str) hD ea (each_imp (fun v z ⟨t, e⟩ => ?_) ea)
    (PySem.W.AllAlike.of fun _ _ => rfl) (PySem.W.Sortable.others fun z => ⟨fun e => (nomatch e), fun xs e => (nomatch e)⟩) (hl ▸ few) (fun z _ => by show A.in1.units + 1 + 0 < cLine; have : A.in1.units = A.units + 1 := rfl; omega) fun out ol eo => ?_) (fun _ u x => wpAny_pure ⟨_, rfl, x⟩) fun _ _ e => e))
  · subst e
    exact ⟨[], .str z t, fun h => nomatch h⟩
  · obtain ⟨c, hc⟩ := sortedHeap_at (vs := vs) (out := out.toArray) hD
    rw [dataLe_s, ms_perm (q1.trans pm)] at eo
    refine hQ _ _ out c (fun b u e => ?_) g1 o1 hz hc eo
    have e1 := Heap.get?_push_of_some ({ cls := .type "list", data := .seq vs.toArray } : Obj) (k1 b u e)
    rw [sortedHeap_old (Nat.ne_of_lt (Heap.lt_size (k1 b u e))) (Heap.lt_size e1)]
    exact e1
end
/-- sorted(set(xs)), xs a list of texts -/
def tSrtS (K : PySem.W.Frag) (ta : TE) : TE := fun σ H Q => ta σ H fun x H1 => ∃ (l : Addr) (zs : List Str), x = .ref l ∧ SqL K H1 l (zs.map V.str) ∧ zs.length ≤ 4000 ∧ ∀ p, H1 p = none → Q (.ref p) (upd H1 p (.lst ((sortS zs).map V.str)))
theorem strs_vals {us : List Value} : ∀ {zs : List Str}, PySem.W.EachIs (fun (v : Value) (z : Str) => ∃ t, v = .str z t) us zs → Vals (zs.map V.str) us
  | _, .nil => .nil
  | _, .cons h r => .cons h (strs_vals r)
theorem vals_strs {P : Program} {w : World} {us : List Value} : ∀ {zs : List Str}, Vals (zs.map V.str) us → us.length = zs.length ∧ ∀ (i : Nat) (v : Value), us[i]? = some v → (PySem.strKind P w).is (zs.getD i "") v = true ∧ v.scannable = true := by
  induction us with
  | nil =>
    intro zs r
    cases zs with
    | nil => exact ⟨rfl, fun i v h => by simp at h⟩
    | cons k ks => cases r
  | cons u us ih =>
    intro zs r
    cases zs with
    | nil => cases r
    | cons z zs =>
      cases r with
      | cons h r =>
        obtain ⟨e, g⟩ := ih r
        refine ⟨by rw [List.length_cons, List.length_cons, e], fun i v hv => ?_⟩
        cases i with
        | zero =>
          simp at hv
          subst hv
          obtain ⟨t, rfl⟩ := show ∃ t, u = .str z t from h
          exact ⟨strKind_is _ _ _ _, rfl⟩
        | succ i => exact g i v (by simpa using hv)
/-- a new list of texts behind a call -/
theorem laid_strs {X : Cx} {pins : List (Addr × Obj)} {σ : L2.St} {H : Hp} {s t : Shared} {p : Addr} {out : List Value} {m : Nat} {ms : List Str} (I : Inv X pins σ H s) (len : ms.length ≤ sizeLine)
    (kk : ∀ b o, s.heap.get? b = some o → t.heap.get? b = some o) (gg : t.gens = s.gens) (oo : t.os = s.os) (hp : s.heap.objs.size ≤ p) (ho : t.heap.get? p = some (seqObj "list" out.toArray m)) (hi : Vals (ms.map V.str) out) :
    H p = none ∧ Inv X pins σ (upd H p (.lst (ms.map V.str))) t := by
  have fr : H p = none := I.hok.fresh hp
  have now : Inv X pins σ (upd H p (.lst (ms.map V.str))) { s with heap := t.heap, gens := t.gens, drawn := t.drawn, toks := t.toks } :=
    I.call (ch := []) (Un.laid kk hp fr) (I.hok.laid kk hp ⟨by rw [List.length_map]; exact len, _, m, hi, ho⟩) (gg ▸ I.bare) fun _ z => nomatch z
  refine ⟨fr, ?_⟩
  obtain ⟨h1, h2, h3, h4, h5⟩ := t
  obtain rfl : h5 = s.os := oo
  exact now
theorem pe_srtS {X : Cx} {a : Expr} {ta : TE} {p p2 q pos : Pos} (hu : X.A.units + 64 < cLine) (hg : Gl X "sorted") (hm : X.mg "sorted" = none) (hg2 : Gl X "set") (hm2 : X.mg "set" = none) (ha : PE X a ta) (hc : X.calm = true := by rfl)
    (na : starEach [a] X.env = (false, eval a X.env) :: starEach [] X.env := by rfl) : PE X (.Call (.Name "sorted" p) [.Call (.Name "set" p2) [a] [] q] [] pos) (tSrtS X.K ta) := by
  refine ⟨fun pins s σ H Q I h => ?_⟩
  refine Call_ (ld_blt I hg hm boot_sorted ?_)
  refine PyProof.Rows.callWith_builtin1 (PyProof.Rows.args_cons ?_ rfl) rfl rfl
  refine Call_ (ld_blt I hg2 hm2 boot_set ?_)
  refine PyProof.Rows.callWith_type1 (PyProof.Rows.args_cons (thn (ha.run pins s σ H _ I h) fun v s1 ⟨x, H1, I1, r1, q1⟩ => PyProof.Rows.args_nil ?_) na) na rfl
  obtain ⟨l, zs, rfl, hq, hl, q1⟩ := q1
  cases r1
  obtain ⟨its, r, pl, hz⟩ := I1.list hq
  obtain ⟨e1, e2⟩ := vals_strs (P := X.prog) (w := X.w) r
  refine made (PySem.strKind X.prog X.w) zs "" (I1.ok.hd hc) pl.isList (by rw [List.size_toArray]; exact e1) (fun i v hv => e2 i v (by simpa using hv)) (by unfold scanBound; omega) fun g k hS hk => PyProof.Rows.args_nil ?_
  have I2 : Inv X pins σ H1 { s1 with heap := g, toks := k } := I1.kept fun b o e => hk b o e
  refine sorted_at hS (I1.ok.hd hc) (by omega) fun t p out m kk gg oo hp ho hi => ?_
  have hl2 := sortS_len zs
  obtain ⟨fr, now⟩ := laid_strs I2 (show (sortS zs).length ≤ sizeLine by rw [sizeLine_eq]; omega) kk gg oo hp ho (strs_vals hi)
  exact ⟨.ref p, _, now, rfl, q1 p fr⟩
end SG
namespace Tr
open PySem PySem.Spec PyProof.Rows L2
variable [Tabl]
section
variable {X : Cx} {K : PySem.W.Frag} {A : Avoid} {H : Hp}
theorem RepAll.of_strs : ∀ {zs : List Str}, RepAll K A H (zs.map V.str) (zs.map T.str)
  | [] => .nil
  | z :: zs => .cons (.str z) RepAll.of_strs
def wSrtS (a : WE) : WE := fun sl P => a sl fun x => ∃ zs : List Str, x.tree = some (.lst (zs.map T.str)) ∧ zs.length ≤ 4000 ∧ P (.val (.lst ((SG.sortS zs).map T.str)))
theorem ge_srtS {j : Nat} {e : Expr} {w : WE} {p p2 q pos : Pos} (hr : Room j X.A) (hg : Gl X "sorted") (hm : X.mg "sorted" = none) (hg2 : Gl X "set") (hm2 : X.mg "set" = none) (he : GE X e w) (hc : X.calm = true := by rfl)
    (na : starEach [e] X.env = (false, eval e X.env) :: starEach [] X.env := by rfl) : GE X (.Call (.Name "sorted" p) [.Call (.Name "set" p2) [e] [] q] [] pos) (wSrtS w) := ge_of (SG.pe_srtS hr.units hg hm hg2 hm2 he hc na) fun F D A H σ sl P Q S hw q =>
  ⟨F, D, A, sl, _, S, hw, fun v H1 x b1 ok hx => by
    obtain ⟨zs, et, hl, hp⟩ := hx
    obtain ⟨a, vs, rfl, h, ra⟩ := (ok.reads et).lst
    rw [RepAll.strs ra] at h
    have S1 := S.beh b1
    exact ⟨a, zs, rfl, .inl (.inl h), hl, fun p hn => q (.ref p) _ (.val (.lst ((SG.sortS zs).map T.str))) (b1.trans (Beh.of_ext S1 (Ext.new hn))) (Rep.lst (fresh_notin S1.alive hn) upd_same RepAll.of_strs) hp⟩⟩
def srtSG (P : Sl → Prop) (x : Sl) : Prop := ∃ zs : List Str, x.tree = some (.lst (zs.map T.str)) ∧ zs.length ≤ 4000 ∧ P (.val (.lst ((SG.sortS zs).map T.str)))
variable {sl : List Sl} {P : Sl → Prop} {a : WE}
theorem x_srtS (h : a sl fun x => srtSG P x) : wSrtS a sl P := h
theorem x_srtSv {zs : List Str} (hl : zs.length ≤ 4000) (h : P (.val (.lst ((SG.sortS zs).map T.str)))) : srtSG P (.val (.lst (zs.map T.str))) := ⟨zs, rfl, hl, h⟩
end
end Tr


set_option Elab.async false
set_option linter.all false
set_option maxRecDepth 100000
set_option maxHeartbeats 0
/-! a table laid anew finds room for all (masks 7, 15, 31, 63) -/
namespace SG
open PySem PySem.Spec PyProof.Rows L2
/-- the round from i -/
def round (m : Nat) : Nat → Nat → List Nat
  | 0, i => [i]
  | f + 1, i => i :: round m f ((i * 5 + 1) % (m + 1))
def MOk (m : Nat) : Prop := m = 7 ∨ m = 15 ∨ m = 31 ∨ m = 63
def allRounds (m : Nat) : Bool := (List.range (m + 1)).all fun i => (List.range (m + 1)).all fun j => (round m m i).contains j
theorem rounds7 : allRounds 7 = true := by decide +kernel
theorem rounds15 : allRounds 15 = true := by decide +kernel
theorem rounds31 : allRounds 31 = true := by decide +kernel
theorem rounds63 : allRounds 63 = true := by decide +kernel
theorem in_round {m : Nat} (hm : MOk m) {i j : Nat} (hi : i ≤ m) (hj : j ≤ m) : j ∈ round m m i := by
  have : allRounds m = true := by
    rcases hm with e | e | e | e <;> subst e
    · exact rounds7
    · exact rounds15
    · exact rounds31
    · exact rounds63
  have h1 := List.all_eq_true.mp this i (List.mem_range.mpr (by omega))
  have h2 := List.all_eq_true.mp h1 j (List.mem_range.mpr (by omega))
  exact List.contains_iff_mem.mp h2
abbrev vac (owner : Array (Option Nat)) (j : Nat) : Bool := (owner.getD j (some 0)).isNone
theorem free_go {m : Nat} {owner : Array (Option Nat)} {f i p : Nat} (h : SetTable.layClean.free m owner (f + 1) i p = none) (hi : i ≤ m) :
    vac owner i = false ∧ SetTable.layClean.free m owner f ((i * 5 + 1 + p / 32) % (m + 1)) (p / 32) = none := by
  unfold SetTable.layClean.free at h
  split at h
  · cases h
  · rename_i e
    refine ⟨?_, h⟩
    have hr : 0 < SetTable.runEnd m i + 1 - i := by unfold SetTable.runEnd; split <;> omega
    have := List.find?_eq_none.mp e 0 (List.mem_range.mpr hr)
    rw [Nat.add_zero] at this
    cases q : vac owner i with
    | false => rfl
    | true => exact (this q).elim
theorem free_some {m : Nat} {owner : Array (Option Nat)} : ∀ {f i p j : Nat}, SetTable.layClean.free m owner f i p = some j → i ≤ m → j ≤ m ∧ vac owner j = true
  | 0, _, _, _, h, _ => by cases h
  | f + 1, i, p, j, h, hi => by
    unfold SetTable.layClean.free at h
    split at h
    · rename_i k e
      cases h
      have h1 := List.find?_some e
      have h2 := List.mem_range.mp (List.mem_of_find?_eq_some e)
      refine ⟨?_, h1⟩
      unfold SetTable.runEnd at h2
      split at h2 <;> omega
    · exact free_some h (Nat.le_of_lt_succ (Nat.mod_lt _ (Nat.succ_pos m)))
theorem free_zero {m : Nat} {owner : Array (Option Nat)} : ∀ {f i : Nat}, SetTable.layClean.free m owner (f + 1) i 0 = none → i ≤ m → ∀ j ∈ round m f i, vac owner j = false
  | 0, i, h, hi, j, hj => by
    rw [List.mem_singleton.mp hj]
    exact (free_go h hi).1
  | f + 1, i, h, hi, j, hj => by
    obtain ⟨h1, h2⟩ := free_go h hi
    rcases List.mem_cons.mp hj with e | e
    · rw [e]; exact h1
    · exact free_zero h2 (Nat.le_of_lt_succ (Nat.mod_lt _ (Nat.succ_pos m))) j e
theorem free_down {m : Nat} {owner : Array (Option Nat)} {f : Nat} : ∀ {n i p : Nat}, p < 32 ^ n → SetTable.layClean.free m owner (n + f) i p = none → i ≤ m → ∃ i', i' ≤ m ∧ SetTable.layClean.free m owner f i' 0 = none
  | 0, i, p, hp, h, hi => ⟨i, hi, by
    have : p = 0 := by simpa using hp
    rw [Nat.zero_add] at h
    rw [this] at h; exact h⟩
  | n + 1, i, p, hp, h, hi => by
    rw [show n + 1 + f = (n + f) + 1 by omega] at h
    refine free_down (n := n) ?_ (free_go h hi).2 (Nat.le_of_lt_succ (Nat.mod_lt _ (Nat.succ_pos m)))
    rw [Nat.pow_succ] at hp
    exact Nat.div_lt_of_lt_mul (by omega)
theorem free_ok {m : Nat} (hm : MOk m) {owner : Array (Option Nat)} {j : Nat} (hj : j ≤ m) (hv : vac owner j = true) (h : Int) :
    ∃ j', SetTable.layClean.free m owner (SetTable.turns m) (SetTable.bits h % (m + 1)) (SetTable.bits h) = some j' ∧ j' ≤ m ∧ vac owner j' = true := by
  have hi : SetTable.bits h % (m + 1) ≤ m := Nat.le_of_lt_succ (Nat.mod_lt _ (Nat.succ_pos m))
  cases e : SetTable.layClean.free m owner (SetTable.turns m) (SetTable.bits h % (m + 1)) (SetTable.bits h) with
  | some j' => exact ⟨j', rfl, free_some e hi⟩
  | none =>
    have hb : SetTable.bits h < 32 ^ 14 := Nat.lt_of_lt_of_le (L2.bits_lt h) (by decide)
    unfold SetTable.turns at e
    rw [show m + 15 = 14 + (m + 1) by omega] at e
    obtain ⟨i', h1, h2⟩ := free_down hb e hi
    have := free_zero h2 h1 j (in_round hm h1 hj)
    rw [this] at hv; cases hv
/-- what stands in the slots -/
abbrev told (owner : Array (Option Nat)) : List Nat := owner.toList.filterMap id
theorem told_set {k : Nat} : ∀ {l : List (Option Nat)} {j : Nat}, l[j]? = some none → ((l.set j (some k)).filterMap id).Perm (k :: l.filterMap id)
  | [], _, h => by simp at h
  | x :: l, 0, h => by
    have : x = none := by simpa using h
    subst this
    exact .refl _
  | x :: l, j + 1, h => by
    have ih := told_set (k := k) (l := l) (j := j) (by simpa using h)
    cases x with
    | none => exact ih
    | some y => exact (ih.cons y).trans (.swap _ _ _)
theorem told_len : ∀ {l : List (Option Nat)}, (∀ j, j < l.length → l[j]? ≠ some none) → (l.filterMap id).length = l.length
  | [], _ => rfl
  | x :: l, h => by
    cases x with
    | none => exact (h 0 (Nat.succ_pos _) rfl).elim
    | some y =>
      show (l.filterMap id).length + 1 = _
      rw [told_len fun j hj e => h (j + 1) (Nat.succ_lt_succ hj) (by simpa using e)]
      rfl
structure Laid (m n : Nat) (owner : Array (Option Nat)) : Prop where
  sz : owner.size = m + 1
  pm : (told owner).Perm (List.range n)
theorem lay_step {m : Nat} (hm : MOk m) {n : Nat} {owner : Array (Option Nat)} (L : Laid m n owner) (hn : n ≤ m) (h : Int) :
    ∃ j, SetTable.layClean.free m owner (SetTable.turns m) (SetTable.bits h % (m + 1)) (SetTable.bits h) = some j ∧ Laid m (n + 1) (owner.setIfInBounds j (some n)) := by
  have room : ∃ j, j ≤ m ∧ owner.toList[j]? = some none := Classical.byContradiction fun z => by
    have := told_len (l := owner.toList) fun j hj e => z ⟨j, by rw [Array.length_toList, L.sz] at hj; omega, e⟩
    rw [L.pm.length_eq, List.length_range, Array.length_toList, L.sz] at this
    omega
  obtain ⟨j, hj, e⟩ := room
  have hv : vac owner j = true := by
    show (owner.getD j (some 0)).isNone = true
    rw [Array.getD_eq_getD_getElem?, ← Array.getElem?_toList, e]
    rfl
  obtain ⟨j', e1, e2, e3⟩ := free_ok hm hj hv h
  refine ⟨j', e1, by rw [Array.size_setIfInBounds]; exact L.sz, ?_⟩
  have e4 : owner.toList[j']? = some none := by
    have hlt : j' < owner.size := by rw [L.sz]; omega
    have e3 : (owner.getD j' (some 0)).isNone = true := e3
    rw [Array.getD_eq_getD_getElem?, Array.getElem?_eq_getElem hlt] at e3
    rw [Array.getElem?_toList, Array.getElem?_eq_getElem hlt]
    cases q : owner[j'] with
    | none => rfl
    | some x => rw [q] at e3; cases e3
  show ((owner.setIfInBounds j' (some n)).toList.filterMap id).Perm _
  rw [Array.toList_setIfInBounds, List.range_succ]
  exact (told_set e4).trans ((L.pm.cons n).trans (List.perm_append_singleton n _).symm)
theorem lay_fold {m : Nat} (hm : MOk m) : ∀ (hs : List Int) (n : Nat) (owner : Array (Option Nat)), Laid m n owner → n + hs.length ≤ m → ∃ o k, hs.foldl (L2.stepF m) (some (owner, n)) = some (o, k) ∧ Laid m (n + hs.length) o
  | [], n, owner, L, _ => ⟨owner, n, rfl, L⟩
  | h :: hs, n, owner, L, hl => by
    rw [List.length_cons] at hl
    obtain ⟨j, e, Lb⟩ := lay_step hm L (by omega) h
    obtain ⟨o, k, e2, L3⟩ := lay_fold hm hs (n + 1) _ Lb (by omega)
    refine ⟨o, k, ?_, by rw [List.length_cons, show n + (hs.length + 1) = n + 1 + hs.length by omega]; exact L3⟩
    rw [List.foldl_cons, show L2.stepF m (some (owner, n)) h = some (owner.setIfInBounds j (some n), n + 1) by unfold L2.stepF; simp [e]]
    exact e2
theorem lay_clean {m : Nat} (hm : MOk m) {hs : Array Int} (hn : hs.size ≤ m) : ∃ owner, SetTable.layClean m hs = some owner ∧ Laid m hs.size owner := by
  obtain ⟨o, k, e, L⟩ := lay_fold hm hs.toList 0 (Array.replicate (m + 1) none) ⟨Array.size_replicate, by
    show ((Array.replicate (m + 1) (none : Option Nat)).toList.filterMap id).Perm _
    rw [Array.toList_replicate]
    have : ∀ n, (List.replicate n (none : Option Nat)).filterMap id = [] := fun n => by induction n with
      | zero => rfl
      | succ n ih => rw [List.replicate_succ]; exact ih
    rw [this]; exact .refl _⟩ (by rw [Array.length_toList]; omega)
  rw [Nat.zero_add, Array.length_toList] at L
  exact ⟨o, by rw [L2.layClean_eq, e]; rfl, L⟩
theorem live_told {owner : Array (Option Nat)} {n : Nat} (hs : owner.size = n) : ((List.range n).filterMap fun j => (owner.getD j none).map (j, ·)).map (·.2) = told owner := by
  have key : ∀ n, n ≤ owner.size → ((List.range n).filterMap fun j => (owner.getD j none).map (j, ·)).map (·.2) = (owner.toList.take n).filterMap id := by
    intro n
    induction n with
    | zero => intro _; rfl
    | succ n ih =>
      intro hn
      have e : owner.getD n none = owner[n] := by rw [Array.getD_eq_getD_getElem?, Array.getElem?_eq_getElem hn]; rfl
      rw [List.range_succ, List.filterMap_append, List.map_append, ih (by omega), List.take_add_one, Array.getElem?_toList, Array.getElem?_eq_getElem hn, List.filterMap_append]
      congr 1
      show (List.filterMap (fun j => (owner.getD j none).map (j, ·)) [n]).map _ = List.filterMap id [owner[n]]
      cases q : owner[n] with
      | none => rw [List.filterMap_cons_none (by rw [e, q]; rfl)]; rfl
      | some x => rw [List.filterMap_cons_some (b := (n, x)) (by rw [e, q]; rfl)]; rfl
  rw [key n (by omega), List.take_of_length_le (by rw [Array.length_toList]; omega)]
theorem laid_ok {m : Nat} (hm : MOk m) {hs : Array Int} (hn : hs.size ≤ m) (f mv : Nat) (l p : Bool) :
    ∃ t order, SetTable.laid m f mv l p hs = some (t, order) ∧ order.toList.Perm (List.range hs.size) ∧ Ris t.place.toList ∧ t.place.size = hs.size ∧ t.dummies = #[] ∧ t.mask = m ∧ t.led = l := by
  obtain ⟨owner, e, L⟩ := lay_clean hm hn
  refine ⟨_, _, by unfold SetTable.laid; rw [e]; rfl, ?_, (ris_live (fun j => owner.getD j none) (List.range (m + 1)) (by unfold Ris; exact List.pairwise_lt_range)).1, ?_, rfl, rfl, rfl⟩
  · have := live_told L.sz
    show (((List.range (m + 1)).filterMap fun j => (owner.getD j none).map (j, ·)).map (·.2)).Perm _
    rw [this]; exact L.pm
  · have := congrArg List.length (live_told L.sz)
    rw [List.length_map] at this
    show (((List.range (m + 1)).filterMap fun j => (owner.getD j none).map (j, ·)).map (·.1)).toArray.size = _
    rw [List.size_toArray, List.length_map, this, L.pm.length_eq, List.length_range]
end SG


set_option Elab.async false
set_option linter.all false
set_option maxRecDepth 100000
set_option maxHeartbeats 0
namespace SG
open PySem PySem.Spec PyProof.Rows L2
theorem range_all {α : Type} (es : Array α) : (List.range es.size).filterMap (fun i => es[i]?) = es.toList := by
  have key : ∀ n, n ≤ es.size → (List.range n).filterMap (fun i => es[i]?) = es.toList.take n := by
    intro n
    induction n with
    | zero => intro _; rfl
    | succ n ih =>
      intro hn
      rw [List.range_succ, List.filterMap_append, ih (by omega), List.take_add_one, Array.getElem?_toList]
      congr 1
  rw [key es.size (Nat.le_refl _), List.take_of_length_le (by rw [Array.length_toList]; omega)]
theorem order_perm {α : Type} {es : Array α} {order : Array Nat} (p : order.toList.Perm (List.range es.size)) : (order.filterMap (es[·]?)).toList.Perm es.toList := by
  rw [Array.toList_filterMap]
  have := p.filterMap fun i => es[i]?
  rw [range_all] at this
  exact this
section
variable {P : Program} {w : World} {A : Around} {E : Value → Shared → Prop} {s : Shared} {κ : Type} [DecidableEq κ] {knd : PySem.KeyKind P w κ} {a : Addr} {ks : List κ}
def sizes : Bool := (List.range 90).all fun n => let m := SetTable.sizeAbove n - 1; (m == 7 || m == 15 || m == 31 || m == 63 || m == 127) && decide (n ≤ m) && decide (SetTable.sizeAbove n ≤ 4096) && (decide (63 < n) || m == 7 || m == 15 || m == 31 || m == 63)
theorem sizes_ok : sizes = true := by decide +kernel
theorem size_of {n : Nat} (h : n ≤ 62) : MOk (SetTable.sizeAbove n - 1) ∧ n ≤ SetTable.sizeAbove n - 1 ∧ SetTable.sizeAbove n ≤ 4096 := by
  have h1 := List.all_eq_true.mp sizes_ok n (List.mem_range.mpr (by omega))
  dsimp only at h1
  simp only [Bool.and_eq_true, Bool.or_eq_true, beq_iff_eq, decide_eq_true_iff] at h1
  obtain ⟨⟨⟨_, h3⟩, h4⟩, h5⟩ := h1
  refine ⟨?_, h3, h4⟩
  rcases h5 with ((( h | h) | h) | h) | h
  · omega
  · exact .inl h
  · exact .inr (.inl h)
  · exact .inr (.inr (.inl h))
  · exact .inr (.inr (.inr h))
/-- the table laid anew for more -/
theorem relay {wanted : Nat} (hw : wanted ≤ 62) {o : Obj} {es : Array (Int × Value)} {ep : Nat} {t : SetTable} (ho : s.heap.get? a = some o) (hd : o.data = .set es ep t) (hf : t.fits es.size = true) (few : es.size ≤ SetTable.sizeAbove wanted - 1) {Q : Unit → Shared → Prop}
    (hQ : ∀ es' t', es'.toList.Perm es.toList → t'.fits es'.size = true → Ris t'.place.toList → t'.dummies = #[] → t'.mask = SetTable.sizeAbove wanted - 1 → t'.led = t.led → Q () { s with heap := s.heap.update a (Obj.putSet es' t') }) : wpAny (model P w) A (setRelay a wanted) Q E s := by
  obtain ⟨hm, _, hz⟩ := size_of hw
  obtain ⟨t', order, e, pm, r, sz, dm, mk, ld⟩ := laid_ok hm (hs := es.map (·.1)) (by rw [Array.size_map]; exact few) t.finger (t.movedTo (SetTable.sizeAbove wanted - 1)) t.led t.plain
  rw [Array.size_map] at pm sz
  have p2 := order_perm pm
  have hs2 : (order.filterMap (es[·]?)).size = es.size := by
    have := p2.length_eq
    rwa [Array.length_toList, Array.length_toList] at this
  unfold setRelay
  refine wpAny_bind (wpAny_setState_of ho hd hf ?_)
  dsimp only
  refine wp_if_neg (by rw [sizeLine_eq]; omega) ?_
  try refine wpAny_bind (wpAny_pure ?_)
  rw [show SetTable.relaid t (es.map (·.1)) wanted = some (t', order) from e]
  refine wpAny_bind ?_
  wp_delta
  dsimp only
  refine wp_if_neg (by rw [hs2]; simp) ?_
  try refine wpAny_bind (wpAny_pure ?_)
  refine wpAny_pure ?_
  dsimp only
  have fits : t'.fits (order.filterMap (es[·]?)).size = true := by
    unfold SetTable.fits SetTable.fill
    rw [dm, hs2, Bool.and_eq_true, beq_iff_eq, decide_eq_true_iff, sz, mk]
    exact ⟨rfl, by simpa using few⟩
  exact wpAny_storeSet_of ho hd (hQ _ _ p2 fits r dm mk ld) (by rw [hs2, sizeLine_eq]; have : SetTable.sizeAbove wanted ≤ 4096 := hz; omega)
/-- what the copy of a set starts from: an empty table -/
theorem room_new {r : Addr} {n : Nat} (hr : s.heap.get? r = some (SL.set0 w)) (few : n ≤ 20) {Q : Unit → Shared → Prop}
    (hQ : ∀ h' ep t', Heap.SameBut r s.heap h' → h'.get? r = some { SL.set0 w with data := .set #[] ep t' } → t'.place = #[] → t'.dummies = #[] → MOk t'.mask → n ≤ t'.mask → (w.params.followText "set-order" = true ∨ t'.led = true) → Q () { s with heap := h' }) :
    wpAny (model P w) A (setRoomFor r n) Q E s := by
  have led : w.params.followText "set-order" = true ∨ (!w.params.followText "set-order") = true := by
    cases w.params.followText "set-order" <;> simp
  unfold setRoomFor
  refine wpAny_bind (wpAny_setState_of hr rfl (by rfl) ?_)
  dsimp only
  unfold SetTable.roomFor SetTable.fill
  by_cases h : ((SetTable.fresh 0 0 (!w.params.followText "set-order")).place.size + (SetTable.fresh 0 0 (!w.params.followText "set-order")).dummies.size + n) * 5 ≥ (SetTable.fresh 0 0 (!w.params.followText "set-order")).mask * 3
  · rw [if_pos h]
    dsimp only
    have hw : (0 + n) * 2 ≤ 62 := by omega
    obtain ⟨m1, m2, _⟩ := size_of hw
    refine relay (o := SL.set0 w) (wanted := (0 + n) * 2) hw hr rfl (by rfl) (Nat.zero_le _) fun es' t' pe hf ris dm mk ld => ?_
    have e0 : es' = #[] := by
      have := pe.length_eq
      rw [Array.length_toList] at this
      exact Array.eq_empty_of_size_eq_zero this
    subst e0
    have hp : t'.place = #[] := by
      unfold SetTable.fits at hf
      rw [Bool.and_eq_true, beq_iff_eq] at hf
      exact Array.eq_empty_of_size_eq_zero hf.1
    exact hQ _ _ t' (Heap.SameBut.update _ r _) (store_at hr rfl) hp dm (mk ▸ m1) (by rw [mk]; omega) (led.imp id fun z => by rw [ld]; exact z)
  · rw [if_neg h]
    exact wpAny_pure (hQ s.heap 0 _ (Heap.SameBut.refl r s.heap) hr rfl rfl (.inl rfl) (by
      have : (SetTable.fresh 0 0 (!w.params.followText "set-order")).mask = 7 := rfl
      have : (SetTable.fresh 0 0 (!w.params.followText "set-order")).place.size = 0 := rfl
      have : (SetTable.fresh 0 0 (!w.params.followText "set-order")).dummies.size = 0 := rfl
      omega) led)
/-- a set laid into a new one -/
theorem merge_new {r : Addr} {each : Sem Unit} (hr : s.heap.get? r = some (SL.set0 w)) (R : SetG knd s.heap a ks) (few : ks.length ≤ 20) {Q : Unit → Shared → Prop} (ne : r ≠ a)
    (hQ : ∀ h', Heap.SameBut r s.heap h' → SetG knd h' r ks → (ks = [] → h'.get? r = some (SL.set0 w)) → Q () { s with heap := h' }) : wpAny (model P w) A (setMerge r a each) Q E s := by
  obtain ⟨o, es, ep, t, L, ho, hx, hd, pr, pm, nd, tb⟩ := id R
  have hsz : es.size = ks.length := by rw [← pm.length_eq, ← Paired.length pr, Array.length_toList]
  unfold setMerge
  refine wp_if_neg (by simpa using ne) ?_
  try refine wpAny_bind (wpAny_pure ?_)
  refine wpAny_bind (wpAny_setState_of ho hd tb.fits ?_)
  dsimp only
  by_cases he : es.isEmpty = true
  · refine wp_if_pos he (wpAny_pure ?_)
    have : ks = [] := by
      have h0 : es.size = 0 := by simpa using he
      exact List.length_eq_zero_iff.mp (hsz ▸ h0)
    subst this
    exact hQ s.heap (Heap.SameBut.refl r s.heap) ⟨_, #[], 0, _, [], hr, ⟨rfl, rfl, rfl⟩, rfl, .nil, .refl _, .nil, by unfold scanBound; decide, by rfl, .nil, by cases w.params.followText "set-order" <;> simp [SetTable.fresh]⟩ fun _ => hr
  · have nk : ks ≠ [] := fun e => he (by rw [e] at hsz; simpa using hsz)
    refine wp_if_neg he ?_
    try refine wpAny_bind (wpAny_pure ?_)
    refine wpAny_bind (room_new hr (n := es.size) (by omega) fun h1 e1 t1 sb g1 p1 d1 m1 n1 l1 => ?_)
    have f1 : t1.fits (#[] : Array (Int × Value)).size = true := by
      unfold SetTable.fits SetTable.fill
      rw [p1, d1]; simp
    refine wpAny_bind (wpAny_setState_of g1 rfl f1 ?_)
    dsimp only
    have fl : (t1.fill != 0) = false := by unfold SetTable.fill; rw [p1, d1]; rfl
    unfold SetTable.road
    rw [if_neg (by rw [fl]; exact Bool.false_ne_true)]
    have fin : ∀ es2 t2, es2.toList.Perm es.toList → t2.fits es2.size = true → Ris t2.place.toList → (w.params.followText "set-order" = true ∨ t2.led = true) → wpAny (model P w) A (storeSet r es2 t2) Q E { s with heap := h1 } := fun es2 t2 q1 q2 q3 q4 => by
      have z2 : es2.size = es.size := by
        have := q1.length_eq
        rwa [Array.length_toList, Array.length_toList] at this
      have f2 : es2.size < scanBound := by rw [z2]; exact tb.few
      obtain ⟨L2', p2, q2'⟩ := paired_perm q1 pr
      exact wpAny_storeSet_of (s := { s with heap := h1 }) g1 rfl (hQ _ (sb.trans (Heap.SameBut.update _ r _)) ⟨_, es2, _, t2, L2', store_at g1 rfl, ⟨rfl, rfl, rfl⟩, rfl, p2, q2'.trans pm, nd, f2, q2, q3, q4⟩ fun e => (nk e).elim) (fits_of_scanBound f2)
    have led2 : w.params.followText "set-order" = true ∨ (t1.led && t.led) = true := by
      rcases l1 with h | h
      · exact .inl h
      · rcases tb.led with g | g
        · exact .inl g
        · exact .inr (by rw [h, g]; rfl)
    by_cases rd : (t1.mask == t.mask && t.dummies.isEmpty) = true
    · rw [if_pos rd]
      exact fin es _ (.refl _) (by have := tb.fits; unfold SetTable.fits SetTable.fill at this ⊢; exact this) tb.ris led2
    · rw [if_neg rd]
      obtain ⟨t', order, e, pm2, ris2, sz2, dm2, mk2, ld2⟩ := laid_ok m1 (hs := es.map (·.1)) (by rw [Array.size_map]; exact n1) t1.finger t1.moves (t1.led && t.led) (t1.plain && t.plain)
      rw [Array.size_map] at pm2 sz2
      have p2 := order_perm pm2
      have hs2 : (order.filterMap (es[·]?)).size = es.size := by
        have := p2.length_eq
        rwa [Array.length_toList, Array.length_toList] at this
      dsimp only
      rw [e]
      refine wpAny_bind ?_
      wp_delta
      dsimp only
      refine wp_if_neg (by rw [hs2]; simp) ?_
      try refine wpAny_bind (wpAny_pure ?_)
      refine wpAny_pure ?_
      dsimp only
      refine fin _ t' p2 ?_ ris2 (by rw [ld2]; exact led2)
      unfold SetTable.fits SetTable.fill
      rw [dm2, hs2, Bool.and_eq_true, beq_iff_eq, decide_eq_true_iff, sz2, mk2]
      exact ⟨rfl, by simpa using n1⟩
end
end SG


set_option Elab.async false
set_option linter.all false
set_option maxRecDepth 100000
set_option maxHeartbeats 0
namespace SG
open PySem PySem.Spec PyProof.Rows L2
section
variable {P : Program} {w : World} {A : Around} {E : Value → Shared → Prop} {s : Shared} {κ : Type} [DecidableEq κ] {knd : PySem.KeyKind P w κ} {a r : Addr} {ks ls : List κ}
theorem sets_quiet {Q : Bool → Shared → Prop} (R : SetG knd s.heap a ks) (T : SetG knd s.heap r ls) (h : Q true s) : wpAny (model P w) A (setsQuiet [a, r]) Q E s := by
  unfold setsQuiet
  refine wpAny_bind ?_
  refine wpAny_forIn_list _ (fun rest b u => u = s ∧ b.1 = none ∧ ∀ x ∈ rest, ∃ ms, SetG knd s.heap x ms) _ ?_ ?_ _ _ ⟨rfl, rfl, fun x hx => ?_⟩
  · rintro x rest b u ⟨rfl, hb, hx⟩
    obtain ⟨ms, o, es, ep, t, L, ho, _, hd, pr, _, _, tb⟩ := hx x List.mem_cons_self
    refine wpAny_bind (wpAny_setEntries_of ho hd tb.fits ?_)
    rw [← Array.forIn_toList]
    refine wpAny_bind (wpAny_forIn_list _ (fun rest b v => v = u ∧ b.1 = none ∧ ∀ e ∈ rest, e.2.scannable = true) _ ?_ ?_ _ _ ⟨rfl, rfl, fun e he => (elems pr e he).2⟩)
    · rintro ⟨i, y⟩ rest2 b2 v ⟨rfl, hb2, h2⟩
      have := h2 _ List.mem_cons_self
      cases y <;> first | (cases this; done) | exact wpAny_pure ⟨rfl, rfl, fun e he => h2 e (List.mem_cons_of_mem _ he)⟩
    · rintro ⟨b1, b2⟩ v ⟨rfl, hb2, _⟩
      have : b1 = none := hb2
      subst this
      exact wpAny_pure ⟨rfl, rfl, fun x h => hx x (List.mem_cons_of_mem _ h)⟩
  · rintro ⟨b1, b2⟩ u ⟨rfl, hb, _⟩
    have : b1 = none := hb
    subst this
    exact wpAny_pure h
  · rcases List.mem_cons.mp hx with rfl | hx
    · exact ⟨ks, R⟩
    · rw [List.mem_singleton.mp hx]; exact ⟨ls, T⟩
/-- the elements of a, for r -/
theorem walk_unseen (R : SetG knd s.heap a ks) (T : SetG knd s.heap r ls) (ne : r ≠ a) {Q : Array (Int × Value) → Shared → Prop}
    (hQ : ∀ es h' d L, Heap.SameBut r s.heap h' → SetG knd h' r ls → Paired (Elt knd) es.toList L → L.Perm ks → Q es { s with heap := h', drawn := d }) : wpAny (model P w) A (setWalkUnseen a [r] (some r)) Q E s := by
  obtain ⟨o, es, ep, t, L, ho, hx, hd, pr, pm, nd, tb⟩ := id R
  have given : ∀ (es' : Array (Int × Value)) d, es'.toList.Perm es.toList → Q es' { s with drawn := d } := fun es' d p => by
    obtain ⟨L1, p1, q1⟩ := paired_perm p pr
    exact hQ es' s.heap d L1 (Heap.SameBut.refl r s.heap) T p1 (q1.trans pm)
  unfold setWalkUnseen
  refine wpAny_bind (wpAny_setState_of ho hd tb.fits ?_)
  dsimp only
  refine wpAny_bind (wpAny_byText ?_)
  have plain : wpAny (model P w) A (setWalk a) Q E s := by
    unfold setWalk
    refine wpAny_bind (wpAny_setState_of ho hd tb.fits ?_)
    dsimp only
    refine wpAny_bind (wpAny_byText ?_)
    by_cases bt : w.params.followText "set-order" = true
    · refine wp_if_pos bt ?_
      exact wpAny_bind (wpAny_askSetting (wpAny_pure (given _ s.drawn (pick_perm _ _))))
    · refine wp_if_neg bt ?_
      try refine wpAny_bind (wpAny_pure ?_)
      by_cases dr : (!t.plain && decide (es.size > 1)) = true
      · refine wp_if_pos dr ?_
        refine wpAny_bind (drawOrder_at _ _ _ _ (Nat.le_of_eq Array.length_toList) fun ys d q => wpAny_pure (given _ d q))
      · refine wp_if_neg dr ?_
        try refine wpAny_bind (wpAny_pure ?_)
        have ld : t.led = true := tb.led.resolve_left bt
        refine wpAny_bind (wpAny_of_eq (a := ()) ?_ ?_)
        · show (if (!t.led && decide (es.size > 1)) = true then unsupported "set:maker-not-led" else pure ()) = pure ()
          rw [ld]; rfl
        · exact wpAny_pure (given es s.drawn (.refl _))
  by_cases c : (w.params.followText "set-order" || (t.led && t.plain) || decide (es.size ≤ 1)) = true
  · exact wp_if_pos c plain
  · refine wp_if_neg c ?_
    try refine wpAny_bind (wpAny_pure ?_)
    refine wpAny_bind (sets_quiet R T ?_)
    refine wp_if_neg (by decide) ?_
    try refine wpAny_bind (wpAny_pure ?_)
    refine wpAny_bind (wpAny_rule ?_)
    try dsimp only
    obtain ⟨o2, es2, ep2, t2, L2', ho2, hx2, hd2, pr2, pm2, nd2, tb2⟩ := id T
    refine wpAny_bind (wpAny_setState_of ho2 hd2 tb2.fits ?_)
    dsimp only
    have bt : ¬ w.params.followText "set-order" = true := fun z => c (by rw [z]; rfl)
    have ld : t.led = true := tb.led.resolve_left bt
    have ld2 : t2.led = true := tb2.led.resolve_left bt
    by_cases c2 : (t2.led && !t.led || t2.plain && !t.plain) = true
    · refine wp_if_pos c2 ?_
      refine wpAny_bind (wpAny_storeSet_of ho2 hd2 ?_ (fits_of_scanBound tb2.few))
      exact wpAny_pure (hQ es _ s.drawn L (Heap.SameBut.update _ r _) ⟨_, es2, _, _, L2', store_at ho2 hd2, hx2, rfl, pr2, pm2, nd2, tb2.few, tb2.fits, tb2.ris, .inr (by show (t2.led && t.led) = true; rw [ld, ld2]; rfl)⟩ pr pm)
    · refine wp_if_neg c2 ?_
      try refine wpAny_bind (wpAny_pure ?_)
      exact wpAny_pure (given es s.drawn (.refl _))
/-- both together -/
def joinK (ks ls : List κ) : List κ := ls.foldl SK.stepD ks
/-- a second set laid into one that has members already, or is new -/
theorem merge_more {each : Sem Unit} (R : SetG knd s.heap a ls) (T : SetG knd s.heap r ks) (fr : ks = [] → s.heap.get? r = some (SL.set0 w)) (few : ks.length ≤ 15) (few2 : ls.length ≤ 15) {Q : Unit → Shared → Prop} (ne : r ≠ a)
    (he : ∀ (u : Shared) (Q1 : Unit → Shared → Prop), (∀ o, s.heap.get? a = some o → u.heap.get? a = some o) → Q1 () u → wpAny (model P w) A each Q1 E u)
    (hQ : ∀ h' d ms, Heap.SameBut r s.heap h' → SetG knd h' r ms → (∀ k, k ∈ ms ↔ k ∈ ks ∨ k ∈ ls) → Q () { s with heap := h', drawn := d }) : wpAny (model P w) A (setMerge r a each) Q E s := by
  cases hk : ks with
  | nil =>
    subst hk
    exact merge_new (fr rfl) R (by omega) ne fun h' sb g _ => hQ h' s.drawn ls sb g fun k => ⟨.inr, fun z => z.elim (fun z => by cases z) id⟩
  | cons k0 kr =>
    obtain ⟨o, es, ep, t, L, ho, hx, hd, pr, pm, nd, tb⟩ := id R
    have hsz : es.size = ls.length := by rw [← pm.length_eq, ← Paired.length pr, Array.length_toList]
    unfold setMerge
    refine wp_if_neg (by simpa using ne) ?_
    try refine wpAny_bind (wpAny_pure ?_)
    refine wpAny_bind (wpAny_setState_of ho hd tb.fits ?_)
    dsimp only
    by_cases hemp : es.isEmpty = true
    · refine wp_if_pos hemp (wpAny_pure ?_)
      have : ls = [] := by
        have h0 : es.size = 0 := by simpa using hemp
        exact List.length_eq_zero_iff.mp (hsz ▸ h0)
      subst this
      exact hQ s.heap s.drawn ks (Heap.SameBut.refl r s.heap) T fun k => ⟨.inl, fun z => z.elim id fun z => by cases z⟩
    · refine wp_if_neg hemp ?_
      try refine wpAny_bind (wpAny_pure ?_)
      have room : wpAny (model P w) A (setRoomFor r es.size) (fun _ u => ∃ h', u = { s with heap := h' } ∧ Heap.SameBut r s.heap h' ∧ SetG knd h' r ks) E s := by
        obtain ⟨o2, es2, ep2, t2, M, ho2, hx2, hd2, pr2, pm2, nd2, tb2⟩ := id T
        have hs2 : es2.size = ks.length := by rw [← pm2.length_eq, ← Paired.length pr2, Array.length_toList]
        have hp2 : t2.place.size = es2.size := by
          have := tb2.fits
          unfold SetTable.fits at this
          rw [Bool.and_eq_true, beq_iff_eq] at this
          exact this.1
        unfold setRoomFor
        refine wpAny_bind (wpAny_setState_of ho2 hd2 tb2.fits ?_)
        dsimp only
        unfold SetTable.roomFor
        by_cases h : (t2.fill + es.size) * 5 ≥ t2.mask * 3
        · rw [if_pos h]
          dsimp only
          have hw : (t2.place.size + es.size) * 2 ≤ 62 := by omega
          obtain ⟨_, m2, _⟩ := size_of hw
          refine relay hw ho2 hd2 tb2.fits (by omega) fun es' t' pe hf ris dm mk ld => ⟨_, rfl, Heap.SameBut.update _ r _, ?_⟩
          obtain ⟨M1, q1, q2⟩ := paired_perm pe pr2
          have z : es'.size = es2.size := by
            have := pe.length_eq
            rwa [Array.length_toList, Array.length_toList] at this
          exact ⟨_, es', _, t', M1, store_at ho2 hd2, hx2, rfl, q1, q2.trans pm2, nd2, by rw [z]; exact tb2.few, hf, ris, tb2.led.imp id fun z => by rw [ld]; exact z⟩
        · rw [if_neg h]
          exact wpAny_pure ⟨s.heap, rfl, Heap.SameBut.refl r s.heap, T⟩
      refine wpAny_bind (wpAny_mono room (fun _ u hu => ?_) fun _ _ x => x)
      obtain ⟨h1, rfl, sb, T1⟩ := hu
      obtain ⟨o2, es2, ep2, t2, M, ho2, hx2, hd2, pr2, pm2, nd2, tb2⟩ := id T1
      refine wpAny_bind (wpAny_setState_of ho2 hd2 tb2.fits ?_)
      dsimp only
      have hs2 : es2.size = ks.length := by rw [← pm2.length_eq, ← Paired.length pr2, Array.length_toList]
      have hp2 : t2.place.size = es2.size := by
        have := tb2.fits
        unfold SetTable.fits at this
        rw [Bool.and_eq_true, beq_iff_eq] at this
        exact this.1
      have fl : (t2.fill != 0) = true := by
        unfold SetTable.fill
        rw [hp2, hs2, hk, List.length_cons]
        simp
      unfold SetTable.road
      rw [if_pos fl]
      dsimp only
      have R1 : SetG knd h1 a ls := R.keep fun o e => by rw [sb.2 a (Ne.symm ne)]; exact e
      refine wpAny_bind (walk_unseen (s := { s with heap := h1 }) R1 T1 ne fun es3 h2 d N sb2 T2 p3 q3 => ?_)
      rw [← Array.forIn_toList]
      have o1 : h2.get? a = some o := by rw [sb2.2 a (Ne.symm ne), sb.2 a (Ne.symm ne)]; exact ho
      refine wpAny_bind (wpAny_forIn_list (s := { s with heap := h2, drawn := d }) _ (fun rest _ u => ∃ h' N' ms, u = { s with heap := h', drawn := d, toks := u.toks } ∧ u.toks = s.toks ∧ Heap.SameBut r s.heap h' ∧ SetG knd h' r ms ∧ Paired (Elt knd) rest N' ∧ (∀ k, (k ∈ ms ∨ k ∈ N') ↔ k ∈ ks ∨ k ∈ ls) ∧ ms.length + N'.length ≤ 30) _ ?_ ?_ _ _ ⟨h2, N, ks, rfl, rfl, sb.trans sb2, T2, p3, fun k => by rw [q3.mem_iff], by rw [q3.length_eq]; omega⟩)
      · rintro ⟨i, y⟩ rest _ u ⟨h', N', ms, e1, e2, sb3, T3, p4, mm, cnt⟩
        cases p4 with
        | @cons _ k _ N2 rk pk =>
          obtain ⟨⟨k1, k2⟩, k3⟩ := rk
          have k2 : i = knd.hash k := k2
          subst k2
          obtain rfl : u = { s with heap := h', drawn := d } := by rw [e1, e2]
          rw [List.length_cons] at cnt
          refine wpAny_bind (wpAny_holding (add_hashed (s := { s with heap := h', drawn := d }) T3 k1 k3 (by unfold scanBound; omega) fun h3 sb4 T4 => ?_))
          have oa : ∀ o', s.heap.get? a = some o' → h3.get? a = some o' := fun o' e => by rw [(sb3.trans sb4).2 a (Ne.symm ne)]; exact e
          refine wpAny_bind (he _ _ oa ?_)
          refine wpAny_bind (wpAny_setState_of (oa o ho) hd tb.fits ?_)
          dsimp only
          refine wp_if_neg (by simp) ?_
          try refine wpAny_bind (wpAny_pure ?_)
          refine wpAny_pure ⟨h3, N2, SK.stepD ms k, rfl, rfl, sb3.trans sb4, T4, pk, fun x => ?_, ?_⟩
          · rw [SK.stepD_mem, ← mm x, List.mem_cons, or_assoc]
          · have := SK.stepD_len ms k
            split at this <;> omega
      · rintro _ u ⟨h', N', ms, e1, e2, sb3, T3, p4, mm, _⟩
        cases p4
        obtain rfl : u = { s with heap := h', drawn := d } := by rw [e1, e2]
        exact wpAny_pure (hQ h' d ms sb3 T3 fun k => ⟨fun z => (mm k).mp (.inl z), fun z => ((mm k).mpr z).elim id fun z => by cases z⟩)
end
end SG


set_option Elab.async false
set_option linter.all false
set_option maxRecDepth 100000
set_option maxHeartbeats 0
namespace SG
open PySem PySem.Spec PyProof.Rows L2
theorem entry_or : entryFor table "set.__or__" = some Builtin.«frozenset.__or__» := entryFor_alias (id' := "frozenset.__or__") (by kernel_rfl) rfl (by decide +kernel) (by kernel_rfl)
section
variable {P : Program} {w : World} {A : Around} {E : Value → Shared → Prop} {s : Shared} {κ : Type} [DecidableEq κ] {knd : PySem.KeyKind P w κ} {a b : Addr} {ks ls : List κ}
theorem any_set {Q : Bool → Shared → Prop} (h : s.TypeIs (.ref a) "set") (q : Q true s) : wpAny (model P w) A (Builtin.Frozenset.isAnySet (.ref a)) Q E s := by
  unfold Builtin.Frozenset.isAnySet orM
  refine wpAny_bind (wpAny_isInstance (b := true) h sub_set_self ?_)
  exact wpAny_pure q
/-- a set's copy -/
theorem copied (R : SetG knd s.heap a ks) (few : ks.length ≤ 20) {Q : Value → Shared → Prop}
    (hQ : ∀ h', (∀ b o, s.heap.get? b = some o → h'.get? b = some o) → SetG knd h' s.heap.objs.size ks → (ks = [] → h'.get? s.heap.objs.size = some (SL.set0 w)) → Q (.ref s.heap.objs.size) { s with heap := h' }) : wpAny (model P w) A (Builtin.Frozenset.copyOf a) Q E s := by
  have la : a < s.heap.objs.size := let ⟨_, _, _, _, _, ho, _⟩ := R; Heap.lt_size ho
  unfold Builtin.Frozenset.copyOf Builtin.Frozenset.baseOf newSet
  refine wpAny_bind (wpAny_bind (wpAny_isInstance (b := true) (R.is rfl) sub_set_self (wpAny_pure ?_)))
  rw [if_pos rfl]
  refine wpAny_bind (wpAny_bind (wpAny_byText ?_))
  dsimp only
  simp only [newObj]
  refine wpAny_bind (wpAny_alloc (wpAny_pure ?_))
  have now : (s.heap.push (SL.set0 w)).get? s.heap.objs.size = some (SL.set0 w) := Heap.get?_push_size _ rfl
  have R1 : SetG knd (s.heap.push (SL.set0 w)) a ks := R.keep fun o e => Heap.get?_push_of_some _ e
  unfold Builtin.Frozenset.addrOf
  refine wpAny_bind (wpAny_pure ?_)
  refine wpAny_bind (merge_new (s := { s with heap := s.heap.push (SL.set0 w) }) now R1 few (Nat.ne_of_gt la) fun h' sb g e => wpAny_pure ?_)
  exact hQ h' (fun b o q => by rw [sb.2 b (Nat.ne_of_lt (Heap.lt_size q))]; exact Heap.get?_push_of_some _ q) g e
/-- a | b of two sets of few members -/
theorem both {Q : Value → Shared → Prop} (R : SetG knd s.heap a ks) (T : SetG knd s.heap b ls) (f1 : ks.length ≤ 15) (f2 : ls.length ≤ 15) (ne : a ≠ b)
    (hQ : ∀ h' d ms, (∀ b o, s.heap.get? b = some o → h'.get? b = some o) → SetG knd h' s.heap.objs.size ms → (∀ k, k ∈ ms ↔ k ∈ ks ∨ k ∈ ls) → Q (.ref s.heap.objs.size) { s with heap := h', drawn := d }) :
    wpAny (model P w) A (binaryOp .BitOr (.ref a) (.ref b)) Q E s := by
  have lb : b < s.heap.objs.size := let ⟨_, _, _, _, _, ho, _⟩ := T; Heap.lt_size ho
  refine wpAny_binaryOp_same (op := .BitOr) (T := "set") (R.is rfl) (T.is rfl) PySem.F.fills_set_or PySem.F.slot_set_or (wpAny_call_entry PySem.F.slot_set_or (R.is rfl) entry_or ?_ (PySem.F.args_set_or_2 _ _))
  unfold Builtin.«frozenset.__or__»
  wp_delta
  refine wpAny_bind (wpAny_of_eq (a := (.ref a, .ref b)) (by rfl) ?_)
  dsimp only
  rw [if_neg Bool.false_ne_true]
  refine wpAny_bind ?_
  unfold andM
  refine wpAny_bind (any_set (R.is rfl) ?_)
  refine any_set (T.is rfl) ?_
  refine wp_if_neg (by decide) ?_
  unfold Builtin.Frozenset.addrOf
  refine wpAny_bind (wpAny_pure ?_)
  refine wpAny_bind ?_
  wp_delta
  refine wpAny_bind (copied R (by omega) fun h1 k1 g1 n1 => ?_)
  have T1 : SetG knd h1 b ls := T.keep fun o e => k1 b o e
  have nb : (Value.ref b != Value.ref a) = true := by
    simp only [bne_iff_ne, ne_eq, Value.ref.injEq]
    exact Ne.symm ne
  refine wp_if_pos nb ?_
  unfold Builtin.Frozenset.addrOf
  refine wpAny_bind (wpAny_pure (wpAny_bind (wpAny_holding ?_)))
  unfold Builtin.Frozenset.updateFrom
  refine wpAny_bind (any_set (s := { s with heap := h1 }) (T1.is rfl) ?_)
  rw [if_pos rfl]
  unfold Builtin.Frozenset.addrOf Builtin.Frozenset.merge
  refine wpAny_bind (wpAny_pure ?_)
  obtain ⟨o, es, ep, t, L, ho, hx, hd, pr, pm, nd, tb⟩ := id T1
  refine wpAny_bind (wpAny_setEpoch_of (s := { s with heap := h1 }) ho hd tb.fits ?_)
  refine merge_more (s := { s with heap := h1 }) T1 g1 n1 f1 f2 (Nat.ne_of_gt lb) (fun u Q1 k2 q => ?_) fun h2 d ms sb g2 mm => ?_
  · unfold Builtin.Frozenset.unchanged
    refine wpAny_bind (wpAny_setEpoch_of (k2 o ho) hd tb.fits ?_)
    refine wp_if_neg (by simp) ?_
    exact wpAny_pure q
  · refine wpAny_pure (wpAny_pure ⟨_, rfl, fun z => (nomatch z), hQ h2 d ms (fun c o q => ?_) g2 mm⟩)
    rw [sb.2 c (Nat.ne_of_lt (Heap.lt_size q))]
    exact k1 c o q
end
end SG


set_option Elab.async false
set_option linter.all false
set_option maxRecDepth 100000
set_option maxHeartbeats 0
namespace SG
open PySem PySem.Spec PyProof.Rows L2
/-- a set of texts, tracked -/
def SO (P : Program) (w : World) (p : Addr) (zs : List Str) : HO := .ext fun h => SetG (PySem.strKind P w) h p zs
theorem so_ok {P : Program} {w : World} {H : Hp} {h : Heap} {p : Addr} {zs : List Str} (R : SetG (PySem.strKind P w) h p zs) : ObjOk P w H h p (SO P w p zs) :=
  ⟨R, let ⟨o, _, _, _, _, ho, _⟩ := R; ⟨o, ho⟩, fun h1 h2 r k => SetG.keep r k⟩
/-- sorted(set(xs) | set(ys)), xs and ys lists of few texts -/
def tSrtU (P : Program) (w : World) (K : PySem.W.Frag) (ta tb : TE) : TE := fun σ H Q => ta σ H fun x H1 => ∃ (l : Addr) (zs : List Str), x = .ref l ∧ SqL K H1 l (zs.map V.str) ∧ zs.length ≤ 15 ∧ ∀ p, H1 p = none → tb σ (upd H1 p (SO P w p (SK.firsts zs))) fun y H2 => ∃ (m : Addr) (ws : List Str), y = .ref m ∧ SqL K H2 m (ws.map V.str) ∧ ws.length ≤ 15 ∧
  H2 p = some (SO P w p (SK.firsts zs)) ∧ ∀ p, H2 p = none → Q (.ref p) (upd H2 p (.lst ((sortS (zs ++ ws)).map V.str)))
theorem drawn_kept {X : Cx} {pins : List (Addr × Obj)} {σ : L2.St} {H : Hp} {s : Shared} (I : Inv X pins σ H s) {h' : Heap} {d : Drawn} (k : ∀ b o, s.heap.get? b = some o → h'.get? b = some o) : Inv X pins σ H { s with heap := h', drawn := d } := by
  have J := I.kept (h' := h') (t' := s.toks) k
  exact ⟨J.ok, J.os, J.bare, J.base, J.loc, J.cell, J.free, J.freeC, J.pin, J.hok, J.len⟩
theorem pe_srtU {X : Cx} {a b : Expr} {ta tb : TE} {p p2 p3 q q3 qb pos : Pos} (hu : X.A.units + 64 < cLine) (hg : Gl X "sorted") (hm : X.mg "sorted" = none) (hg2 : Gl X "set") (hm2 : X.mg "set" = none) (ha : PE X a ta) (hb : PE X b tb) (hc : X.calm = true := by rfl)
    (na : starEach [a] X.env = (false, eval a X.env) :: starEach [] X.env := by rfl) (nb : starEach [b] X.env = (false, eval b X.env) :: starEach [] X.env := by rfl) :
    PE X (.Call (.Name "sorted" p) [.BinOp (.Call (.Name "set" p2) [a] [] q) .BitOr (.Call (.Name "set" p3) [b] [] q3) qb] [] pos) (tSrtU X.prog X.w X.K ta tb) := by
  refine ⟨fun pins s σ H Q I h => ?_⟩
  refine Call_ (ld_blt I hg hm boot_sorted ?_)
  refine PyProof.Rows.callWith_builtin1 (PyProof.Rows.args_cons ?_ rfl) rfl rfl
  refine wpAny_BinOp ?_
  refine Call_ (ld_blt I hg2 hm2 boot_set ?_)
  refine PyProof.Rows.callWith_type1 (PyProof.Rows.args_cons (thn (ha.run pins s σ H _ I h) fun v s1 ⟨x, H1, I1, r1, q1⟩ => PyProof.Rows.args_nil ?_) na) na rfl
  obtain ⟨l, zs, rfl, hq, hl, q1⟩ := q1
  cases r1
  obtain ⟨its, r, pl, hz⟩ := I1.list hq
  obtain ⟨e1, e2⟩ := vals_strs (P := X.prog) (w := X.w) r
  refine made (PySem.strKind X.prog X.w) zs "" (I1.ok.hd hc) pl.isList (by rw [List.size_toArray]; exact e1) (fun i v hv => e2 i v (by simpa using hv)) (by unfold scanBound; omega) fun g k hS hk => ?_
  have fr := I1.hok.fresh (Nat.le_refl s1.heap.objs.size)
  have I2 : Inv X pins σ (upd H1 s1.heap.objs.size (SO X.prog X.w s1.heap.objs.size (SK.firsts zs))) { s1 with heap := g, toks := k } := I1.laid (a := s1.heap.objs.size) (fun b o e => hk b o e) (Nat.le_refl _) (so_ok hS)
  refine Call_ (ld_blt I2 hg2 hm2 boot_set ?_)
  refine PyProof.Rows.callWith_type1 (PyProof.Rows.args_cons (thn (hb.run pins _ σ _ _ I2 (q1 _ fr)) fun v s3 ⟨y, H3, I3, r3, q3⟩ => PyProof.Rows.args_nil ?_) nb) nb rfl
  obtain ⟨m, ws, rfl, hq3, hl3, hp3, q3⟩ := q3
  cases r3
  have A3 : SetG (PySem.strKind X.prog X.w) s3.heap s1.heap.objs.size (SK.firsts zs) := (I3.hok _ _ hp3).1
  obtain ⟨its3, r3, pl3, hz3⟩ := I3.list hq3
  obtain ⟨e3, e4⟩ := vals_strs (P := X.prog) (w := X.w) r3
  refine made (PySem.strKind X.prog X.w) ws "" (I3.ok.hd hc) pl3.isList (by rw [List.size_toArray]; exact e3) (fun i v hv => e4 i v (by simpa using hv)) (by unfold scanBound; omega) fun g3 k3 hS3 hk3 => ?_
  have I4 : Inv X pins σ H3 { s3 with heap := g3, toks := k3 } := I3.kept fun b o e => hk3 b o e
  have A4 : SetG (PySem.strKind X.prog X.w) g3 s1.heap.objs.size (SK.firsts zs) := A3.keep fun o e => hk3 _ _ e
  have lt : s1.heap.objs.size < s3.heap.objs.size := let ⟨_, _, _, _, _, ho, _⟩ := A3; Heap.lt_size ho
  have f1 := SK.firsts_len zs
  have f2 := SK.firsts_len ws
  refine both (s := { s3 with heap := g3, toks := k3 }) A4 hS3 (by omega) (by omega) (Nat.ne_of_lt lt) fun h5 d ms k5 g5 mm => PyProof.Rows.args_nil ?_
  have I5 : Inv X pins σ H3 { s3 with heap := h5, drawn := d, toks := k3 } := drawn_kept I4 k5
  refine sorted_at (s := { s3 with heap := h5, drawn := d, toks := k3 }) g5 (I3.ok.hd hc) (by omega) fun t p out mm2 kk gg oo hp ho hi => ?_
  have nd5 : ms.Nodup := let ⟨_, _, _, _, _, _, _, _, _, _, nd, _⟩ := g5; nd
  have es : ms.mergeSort strLe = sortS (zs ++ ws) := (sortS_one (fun z => by
    rw [(List.mergeSort_perm ms strLe).mem_iff, mm z, SK.mem_firsts, SK.mem_firsts, List.mem_append]) ((List.mergeSort_perm ms strLe).nodup_iff.mpr nd5) (sorted_ms ms)).symm
  rw [es] at hi
  have hl2 := sortS_len (zs ++ ws)
  rw [List.length_append] at hl2
  obtain ⟨fr5, now⟩ := laid_strs I5 (show (sortS (zs ++ ws)).length ≤ sizeLine by rw [sizeLine_eq]; omega) kk gg oo hp ho (strs_vals hi)
  exact ⟨.ref p, _, now, rfl, q3 p fr5⟩
end SG
namespace Tr
open PySem PySem.Spec PyProof.Rows L2
variable [Tabl]
section
variable {X : Cx} {K : PySem.W.Frag} {A : Avoid} {H : Hp}
def wSrtU (a b : WE) : WE := fun sl P => a sl fun x => ∃ zs : List Str, x.tree = some (.lst (zs.map T.str)) ∧ zs.length ≤ 15 ∧ b sl fun y => ∃ ws : List Str, y.tree = some (.lst (ws.map T.str)) ∧ ws.length ≤ 15 ∧ P (.val (.lst ((SG.sortS (zs ++ ws)).map T.str)))
theorem ge_srtU {j : Nat} {e d : Expr} {w v : WE} {p p2 p3 q q3 qb pos : Pos} (hr : Room j X.A) (hg : Gl X "sorted") (hm : X.mg "sorted" = none) (hg2 : Gl X "set") (hm2 : X.mg "set" = none) (he : GE X e w) (hd : GE X d v) (hc : X.calm = true := by rfl)
    (na : starEach [e] X.env = (false, eval e X.env) :: starEach [] X.env := by rfl) (nb : starEach [d] X.env = (false, eval d X.env) :: starEach [] X.env := by rfl) : GE X (.Call (.Name "sorted" p) [.BinOp (.Call (.Name "set" p2) [e] [] q) .BitOr (.Call (.Name "set" p3) [d] [] q3) qb] [] pos) (wSrtU w v) := ge_of (SG.pe_srtU hr.units hg hm hg2 hm2 he hd hc na nb) fun F D A H σ sl P Q S hw q =>
  ⟨F, D, A, sl, _, S, hw, fun u H1 x b1 ok hx => by
    obtain ⟨zs, et, hl, hp⟩ := hx
    obtain ⟨a, vs, rfl, h, ra⟩ := (ok.reads et).lst
    rw [RepAll.strs ra] at h
    have S1 := S.beh b1
    refine ⟨a, zs, rfl, .inl (.inl h), hl, fun p hn => ?_⟩
    have b2 := Beh.of_ext S1 (Ext.new (A := []) (o := SG.SO X.prog X.w p (SK.firsts zs)) hn)
    refine ⟨F, D, A, sl, _, S1.beh b2, hp, fun u2 H3 y b3 ok3 hy => ?_⟩
    obtain ⟨ws, et3, hl3, hp3⟩ := hy
    obtain ⟨a3, vs3, rfl, h3, ra3⟩ := (ok3.reads et3).lst
    rw [RepAll.strs ra3] at h3
    have S3 := (S1.beh b2).beh b3
    refine ⟨a3, ws, rfl, .inl (.inl h3), hl3, b3.ext p _ (fun z => fresh_notin S1.alive hn (S1.dA _ z)) upd_same, fun p5 hn5 => ?_⟩
    exact q (.ref p5) _ (.val (.lst ((SG.sortS (zs ++ ws)).map T.str))) ((b1.trans (b2.trans b3)).trans (Beh.of_ext S3 (Ext.new hn5))) (Rep.lst (fresh_notin S3.alive hn5) upd_same RepAll.of_strs) hp3⟩
def srtUG (b : WE) (sl : List Sl) (P : Sl → Prop) (x : Sl) : Prop := ∃ zs : List Str, x.tree = some (.lst (zs.map T.str)) ∧ zs.length ≤ 15 ∧ b sl fun y => ∃ ws : List Str, y.tree = some (.lst (ws.map T.str)) ∧ ws.length ≤ 15 ∧ P (.val (.lst ((SG.sortS (zs ++ ws)).map T.str)))
variable {sl : List Sl} {P : Sl → Prop} {a b : WE}
theorem x_srtU (h : a sl fun x => srtUG b sl P x) : wSrtU a b sl P := h
end
end Tr


set_option Elab.async false
set_option linter.all false
set_option maxRecDepth 100000
set_option maxHeartbeats 0
/-! == and != of lists whose members are data or dicts of data -/
namespace NX
open PySem PySem.SeqAt
open AutoSeq1 (wpAny_loadPart')
open MeetsSeq MeetsSeq2 MeetsSeq3 SeqRoads2
section
variable {prog : Program} {w : World}
/-- the loop of != over two lists of one length -/
theorem loop_ne (l m : Addr) (xs ys : Array Value) (c c2 : Nat) (d1 d2 : Option Addr) (s1 s2 : Array (Option Value)) (len : xs.size = ys.size) (e : Nat → Bool) (k : Nat) :
    ∀ i : Nat, i + k = xs.size → ∀ (A : Around) (R : Result → Shared → Prop) (s : Shared), s.heap.get? l = some { cls := .type "list", dict := d1, data := .seq xs c, slots := s1 } → s.heap.get? m = some { cls := .type "list", dict := d2, data := .seq ys c2, slots := s2 } →
      (∀ j (h1 : j < xs.size) (h2 : j < ys.size), EqIn prog w A.in1 s xs[j] ys[j] (e j)) → R (.ok (.ret (.bool (!((List.range xs.size).drop i).all e)))) s →
      wpAny (model prog w) A.in1 (Builtin.«list.__eq__.loop» ⟨[.ref l, .ref m, rawInt i, rawInt 3], []⟩) (GQ.FinOf prog w A R) (fun e s' => R (.error e) s') s := by
  induction k with
  | zero =>
    intro i hk A R s hl hm he h
    obtain ⟨hp, g, d, tk, os⟩ := s
    wp_walk using wpAny_loadPart' hl, wpAny_loadPart' hm
    have n1 : xs[((i : Nat) : Int).toNat]? = none := by simp; omega
    have n2 : ys[((i : Nat) : Int).toNat]? = none := by simp; omega
    have n3 : (List.range xs.size).drop i = [] := by simp; omega
    rw [n3] at h
    rw [n1, n2]
    wp_walk using wpAny_loadPart' hl, wpAny_loadPart' hm
    show R (.ok (.ret (.bool (xs.size != ys.size)))) _
    rw [len]
    simpa using h
  | succ k ih =>
    intro i hk A R s hl hm he h
    obtain ⟨hp, g, d, tk, os⟩ := s
    wp_walk using wpAny_loadPart' hl, wpAny_loadPart' hm
    have q1 : i < xs.size := by omega
    have q2 : i < ys.size := by omega
    have n1 : xs[((i : Nat) : Int).toNat]? = some xs[i] := by simp [q1]
    have n2 : ys[((i : Nat) : Int).toNat]? = some ys[i] := by simp [q2]
    have n3 : (List.range xs.size).drop i = i :: (List.range xs.size).drop (i + 1) := by simp [List.drop_eq_getElem_cons, q1]
    rw [n3, List.all_cons] at h
    rw [n1, n2]
    refine wpAny_bind (he i q1 q2 _ _ ?_)
    cases hb : e i with
    | true =>
      rw [hb] at h
      wp_walk
      rw [show ((i : Int) + 1) = ((i + 1 : Nat) : Int) by omega]
      exact ⟨plainId_quiet plain_eq_loop _, codeAny_builtin entry_eq_loop (by
        rw [Around.under_plainId plain_eq_loop _]
        exact ih (i + 1) (by omega) A R _ hl hm he (by simpa using h))⟩
    | false =>
      rw [hb] at h
      wp_walk using wpAny_loadPart' hl, wpAny_loadPart' hm
      rw [n1, n2]
      wp_walk
      simpa using h
end
end NX
namespace NX
open PySem PySem.SeqAt PySem.Calls PyProof.Rows
open AutoSeq1 (wpAny_loadPart')
open MeetsSeq MeetsSeq2 MeetsSeq3 SeqRoads2
section
variable {prog : Program} {w : World} {A : Around} {s : Shared}
theorem list_ne (l m : Addr) (xs ys : Array Value) (c c2 : Nat) (d1 d2 : Option Addr) (s1 s2 : Array (Option Value)) (len : xs.size = ys.size) (e : Nat → Bool) {R : Result → Shared → Prop}
    (hl : s.heap.get? l = some { cls := .type "list", dict := d1, data := .seq xs c, slots := s1 }) (hm : s.heap.get? m = some { cls := .type "list", dict := d2, data := .seq ys c2, slots := s2 })
    (he : ∀ j (h1 : j < xs.size) (h2 : j < ys.size), EqIn prog w A.in1 s xs[j] ys[j] (e j)) (h : R (.ok (.ret (.bool (!(List.range xs.size).all e)))) s) :
    wpAny (model prog w) A.in1 (Builtin.«list.__ne__» ⟨[.ref l, .ref m], []⟩) (GQ.FinOf prog w A R) (fun e s' => R (.error e) s') s := by
  have go := loop_ne (prog := prog) (w := w) l m xs ys c c2 d1 d2 s1 s2 len e xs.size 0 (Nat.zero_add _) A R s hl hm he (by simpa using h)
  obtain ⟨hp, g, d, tk, os⟩ := s
  have f3 := AutoSeq1.sub_list_list
  have hne : ¬ (xs.size != ys.size) = true := by simp [len]
  wp_walk using wpAny_loadPart' hl, wpAny_loadPart' hm
  exact ⟨plainId_quiet plain_eq_loop _, codeAny_builtin entry_eq_loop (by
    rw [Around.under_plainId plain_eq_loop _]
    exact go)⟩
theorem rc_ne {E : Value → Shared → Prop} {l m : Addr} {xs ys : Array Value} {e : Nat → Bool} {Q : Value → Shared → Prop} (hl : s.heap.IsList l xs) (hm : s.heap.IsList m ys) (len : xs.size = ys.size) (hu : A.units < cLine)
    (he : ∀ j (h1 : j < xs.size) (h2 : j < ys.size), EqIn prog w A.in1 s xs[j] ys[j] (e j)) (h : Q (.bool (!(List.range xs.size).all e)) s) : wpAny (model prog w) A (compareOp .NotEq (.ref l) (.ref m)) Q E s := by
  obtain ⟨⟨c1, d1, t1, s1⟩, o1, e1, n1, e2⟩ := id hl
  obtain ⟨⟨c2, d2, t2, s2⟩, o2, e3, n2, e4⟩ := id hm
  simp only at e1 e2 e3 e4
  subst e1 e2 e3 e4
  refine wpAny_richCompare_same_room (T := "list") (op := .NotEq) ⟨_, o1, rfl⟩ ⟨_, o2, rfl⟩ F.slot_list_ne (call_meetsIn F.slot_list_ne ⟨_, o1, rfl⟩ F.entry_list_ne (F.args_list_ne_2 _ _) (S := fun A R s => s.heap.get? l = _ ∧ s.heap.get? m = _ ∧ (∀ j (h1 : j < xs.size) (h2 : j < ys.size), EqIn prog w A.in1 s xs[j] ys[j] (e j)) ∧ R (.ok (.ret (.bool (!(List.range xs.size).all e)))) s) ?_
    ⟨o1, o2, he, show Value.bool (!(List.range xs.size).all e) ≠ Value.notImplemented ∧ Q (.bool (!(List.range xs.size).all e)) s from ⟨(fun x => nomatch x), h⟩⟩) hu
  intro A R s q
  exact list_ne l m xs ys _ _ _ _ _ _ len e q.1 q.2.1 q.2.2.1 q.2.2.2
end
end NX
namespace Tr
open PySem PySem.Spec PyProof.Rows L2
/-- members: data, or dicts of data -/
def itB (s t : T) : Bool := if (shp s && shp t) = true then eqB s t else match s, t with
  | .dct ks ts, .dct ls us => ks.length == ls.length && eqDB ks ts ls us
  | _, _ => false
def itOk (s t : T) : Bool := if (shp s && shp t) = true then true else match s, t with
  | .dct ks ts, .dct ls us => ts.all shp && us.all shp && decide ks.Nodup && decide (ks.length = ts.length)
  | _, _ => false
def eqLD : T → T → Option T
  | .lst as, .lst bs => if (as.length == bs.length && (as.zip bs).all fun p => itOk p.1 p.2) = true then some (.bl ((as.zip bs).all fun p => itB p.1 p.2)) else none
  | _, _ => none
def neLD : T → T → Option T
  | .lst as, .lst bs => if (as.length == bs.length && (as.zip bs).all fun p => itOk p.1 p.2) = true then some (.bl (!(as.zip bs).all fun p => itB p.1 p.2)) else none
  | _, _ => none
/-- the members, one by one -/
inductive ItsV (K : PySem.W.Frag) (H : Hp) : List V → List V → List (T × T) → Prop
  | nil : ItsV K H [] [] []
  | cons {v u : V} {vs us : List V} {s t : T} {ps : List (T × T)} (A B : Avoid) : Rep K A H v s → Rep K B H u t → itOk s t = true → ItsV K H vs us ps → ItsV K H (v :: vs) (u :: us) ((s, t) :: ps)
def rEqLD (K : PySem.W.Frag) : R2 := fun x y H Q => ∃ a b xs ys ps, x = .ref a ∧ y = .ref b ∧ SqL K H a xs ∧ SqL K H b ys ∧ ItsV K H xs ys ps ∧ Q (.bl (ps.all fun p => itB p.1 p.2)) H
def rNeLD (K : PySem.W.Frag) : R2 := fun x y H Q => ∃ a b xs ys ps, x = .ref a ∧ y = .ref b ∧ SqL K H a xs ∧ SqL K H b ys ∧ ItsV K H xs ys ps ∧ Q (.bl (!ps.all fun p => itB p.1 p.2)) H
section
variable [Tabl] {X : Cx} {pins : List (Addr × Obj)} {σ : L2.St} {H : Hp} {s : Shared}
theorem getK_at {ks : List Key} {us : List T} (nd : ks.Nodup) (hl : ks.length = us.length) {i : Nat} {k : Key} {u : T} (h1 : ks[i]? = some k) (h2 : us[i]? = some u) : getK ks us k = some u := by
  induction ks generalizing us i with
  | nil => simp at h1
  | cons x ks ih =>
    cases us with
    | nil => cases hl
    | cons y us =>
      have nd2 := List.nodup_cons.mp nd
      cases i with
      | zero =>
        simp at h1 h2
        subst h1; subst h2
        show Option.map (·.2) (List.find? _ ((x, y) :: ks.zip us)) = _
        rw [List.find?_cons, show decide ((x, y).1 = x) = true from decide_eq_true rfl]
        rfl
      | succ i =>
        have h1' : ks[i]? = some k := by simpa using h1
        have ne : x ≠ k := fun e => nd2.1 (e ▸ List.mem_of_getElem? h1')
        have := ih nd2.2 (by simpa using hl) h1' (by simpa using h2)
        show Option.map (·.2) (List.find? _ ((x, y) :: ks.zip us)) = _
        rw [List.find?_cons, show decide ((x, y).1 = k) = false from decide_eq_false ne]
        exact this
/-- one value, two readings: equal -/
theorem same_dat (I : Inv X pins σ H s) {A B : Avoid} {v : V} {x : Value} (r : RelV v x) {t u : T} (h1 : Rep X.K A H v t) (h2 : Rep X.K B H v u) (s1 : shp t = true) (s2 : shp u = true) : eqB t u = true := by
  obtain ⟨d, d1, d2⟩ := shp_of s1
  obtain ⟨e, e1, e2⟩ := shp_of s2
  obtain ⟨as, r1⟩ := Dp.reads I d v x (dat_ok h1 d1) r
  obtain ⟨bs, r2⟩ := Dp.reads I e v x (dat_ok h2 e1) r
  have hl : d.canLay0 = true := by
    have : (SeqAt.shaped d) = true := d2
    unfold SeqAt.shaped at this
    simp only [Bool.and_eq_true] at this
    exact this.1
  have := SeqAt.Reads.unique d e x as bs hl r1 r2
  subst this
  unfold eqB
  rw [d1, e1]
  exact SeqAt.eqv_refl d hl
/-- two members -/
theorem item_eq (I : Inv X pins σ H s) (hu : X.A.units + 68 < cLine) {A B : Avoid} {v u : V} {x y : Value} {t r : T} (rx : RelV v x) (ry : RelV u y) (h1 : Rep X.K A H v t) (h2 : Rep X.K B H u r) (ok : itOk t r = true) :
    SeqAt.EqIn X.prog X.w X.A.in1 s x y (itB t r) := by
  unfold itOk at ok
  unfold itB
  by_cases hs : (shp t && shp r) = true
  · rw [if_pos hs]
    rw [Bool.and_eq_true] at hs
    obtain ⟨d, d1, d2⟩ := shp_of hs.1
    obtain ⟨e, e1, e2⟩ := shp_of hs.2
    obtain ⟨as, r1⟩ := Dp.reads I d v x (dat_ok h1 d1) rx
    obtain ⟨bs, r2⟩ := Dp.reads I e u y (dat_ok h2 e1) ry
    have : eqB t r = PyData.eqv d e := by unfold eqB; rw [d1, e1]
    rw [this]
    exact (PySem.W.keq_at r1 r2 d2 e2 (by show X.A.units + 1 + 64 < cLine; omega)).inModel _ _
  · rw [if_neg hs]
    rw [if_neg hs] at ok
    cases t with
    | dct ks ts => cases r with
      | dct ls us =>
        simp only [Bool.and_eq_true, List.all_eq_true, decide_eq_true_iff] at ok
        obtain ⟨⟨⟨o1, o2⟩, o3⟩, o4⟩ := ok
        obtain ⟨a, vs, rfl, ha, la, ra⟩ := (RepS.of h1).dct
        obtain ⟨b, ws, rfl, hb, lb, rb⟩ := (RepS.of h2).dct
        cases (show x = Value.ref a from rx)
        cases (show y = Value.ref b from ry)
        by_cases ab : a = b
        · subst ab
          have hz : ks.zip vs = ls.zip ws := by
            rcases ha with ha | ⟨o, ha⟩ <;> rcases hb with hb | ⟨o2, hb⟩ <;> rw [ha] at hb
            · injection hb with hb; injection hb
            · injection hb with hb; cases hb
            · injection hb with hb; cases hb
            · injection hb with hb; injection hb with _ hb; injection hb
          have hk : ks = ls := by
            have h := congrArg (List.map Prod.fst) hz
            rw [List.map_fst_zip (by omega), List.map_fst_zip (by omega)] at h
            exact h
          have hv : vs = ws := by
            have h := congrArg (List.map Prod.snd) hz
            rw [List.map_snd_zip (by omega), List.map_snd_zip (by omega)] at h
            exact h
          subst hk
          subst hv
          have hl2 : us.length = ks.length := by rw [← rb.length, ← lb]
          obtain ⟨xs, _, kv, _⟩ := rd_dict I ha
          have key : ∀ (n : Nat), n ≤ ks.length → eqDB (ks.drop n) (ts.drop n) ks us = true := by
            intro n hn
            generalize hd : ks.length - n = m
            induction m generalizing n with
            | zero =>
              rw [List.drop_of_length_le (by omega)]; rfl
            | succ m ih =>
              have n1 : n < ks.length := by omega
              have n2 : n < ts.length := by omega
              have n3 : n < us.length := by omega
              rw [List.drop_eq_getElem_cons n1, List.drop_eq_getElem_cons n2]
              show ((match getK ks us ks[n] with
                | some u => eqB ts[n] u
                | none => false) && eqDB (ks.drop (n + 1)) (ts.drop (n + 1)) ks us) = true
              rw [getK_at o3 hl2.symm (List.getElem?_eq_getElem n1) (List.getElem?_eq_getElem n3), ih (n + 1) (by omega) (by omega), Bool.and_true]
              obtain ⟨v1, g1, p1⟩ := ra.get (List.getElem?_eq_getElem n2)
              obtain ⟨v2, g2, p2⟩ := rb.get (List.getElem?_eq_getElem n3)
              rw [g1] at g2
              injection g2 with g2
              subst g2
              have gz : (ks.zip vs)[n]? = some (ks[n], v1) := by
                rw [List.getElem?_zip_eq_some]
                exact ⟨List.getElem?_eq_getElem n1, g1⟩
              obtain ⟨z, _, rz⟩ := paired_get kv gz
              exact same_dat I rz.2 p1 p2 (o1 _ (List.getElem_mem n2)) (o2 _ (List.getElem_mem n3))
          have k0 := key 0 (Nat.zero_le _)
          rw [List.drop_zero, List.drop_zero] at k0
          show SeqAt.EqIn _ _ _ _ _ _ (ks.length == ks.length && eqDB ks ts ks us)
          rw [k0, beq_self_eq_true, Bool.and_true]
          exact (SeqAt.EqAt.same _).inModel _ _
        · obtain ⟨va, ya, pa, da⟩ := rd_dict I ha
          obtain ⟨vb, yb, pb, db⟩ := rd_dict I hb
          refine SeqAt.EqIn.of_refs ab fun E Q hq => ?_
          refine PySem.W.keq_eq (A := X.A.in1) ya yb da db (by show X.A.units + 1 < cLine; omega) (fun _ => hits_of I (A := X.A.in1) (by show X.A.units + 1 + 1 + 64 < cLine; omega) pb pa (hitsT rb o2 la ra o1)) ?_
          rw [show va.length = (ks.zip vs).length from pa.length.symm, show vb.length = (ls.zip ws).length from pb.length.symm, List.length_zip, List.length_zip, ← la, ← lb, Nat.min_self, Nat.min_self]
          exact hq
      | _ => cases ok
    | _ => cases ok
theorem its_eq (I : Inv X pins σ H s) (hu : X.A.units + 68 < cLine) : ∀ {vs us : List V} {ps : List (T × T)}, ItsV X.K H vs us ps → ∀ {xs ys : List Value}, Vals vs xs → Vals us ys → xs.length = ps.length ∧ ys.length = ps.length ∧
    ∀ j (h1 : j < xs.length) (h2 : j < ys.length), SeqAt.EqIn X.prog X.w X.A.in1 s xs[j] ys[j] ((ps[j]?.map fun p => itB p.1 p.2).getD true)
  | _, _, _, .nil, _, _, r1, r2 => by
    cases r1; cases r2
    exact ⟨rfl, rfl, fun j h1 => absurd h1 (Nat.not_lt_zero j)⟩
  | _, _, _, .cons A B h1 h2 ok t, _, _, r1, r2 => by
    cases r1 with
    | cons p1 p2 => cases r2 with
      | cons q1 q2 =>
        obtain ⟨l1, l2, f⟩ := its_eq I hu t p2 q2
        refine ⟨by rw [List.length_cons, List.length_cons, l1], by rw [List.length_cons, List.length_cons, l2], fun j g1 g2 => ?_⟩
        cases j with
        | zero => exact item_eq I hu p1 q1 h1 h2 ok
        | succ j =>
          have := f j (by simpa using g1) (by simpa using g2)
          simpa using this
theorem all_range {ps : List (T × T)} {n : Nat} (h : n = ps.length) : ((List.range n).all fun j => (ps[j]?.map fun p => itB p.1 p.2).getD true) = ps.all fun p => itB p.1 p.2 := by
  subst h
  rw [Bool.eq_iff_iff, List.all_eq_true, List.all_eq_true]
  refine ⟨fun h p hp => ?_, fun h j hj => ?_⟩
  · obtain ⟨j, hj, e⟩ := List.mem_iff_getElem.mp hp
    have := h j (List.mem_range.mpr hj)
    rw [List.getElem?_eq_getElem hj, e] at this
    exact this
  · have hj := List.mem_range.mp hj
    rw [List.getElem?_eq_getElem hj]
    exact h _ (List.getElem_mem hj)
theorem op_neLD (hu : X.A.units + 70 < cLine) : OpR X (compareOp .NotEq) (rNeLD X.K) := by
  intro pins s σ H x y v u Q I rx ry h
  obtain ⟨a, b, xs, ys, ps, rfl, rfl, ha, hb, hi, q⟩ := h
  cases (show v = Value.ref a from rx)
  cases (show u = Value.ref b from ry)
  obtain ⟨us, r1, l1, _⟩ := I.list ha
  obtain ⟨ws, r2, l2, _⟩ := I.list hb
  obtain ⟨e1, e2, f⟩ := its_eq I (by omega) hi r1 r2
  refine NX.rc_ne (e := fun j => (ps[j]?.map fun p => itB p.1 p.2).getD true) l1.isList l2.isList (by rw [List.size_toArray, List.size_toArray, e1, e2]) (by omega) (fun j g1 g2 => by simpa using f j (by simpa using g1) (by simpa using g2)) ?_
  rw [List.size_toArray, all_range e1]
  exact ⟨.bl _, H, I, rfl, q⟩
variable {K : PySem.W.Frag} {A B : Avoid}
theorem its_rep : ∀ {vs us : List V} {as bs : List T}, RepAll K A H vs as → RepAll K B H us bs → as.length = bs.length → ((as.zip bs).all fun p => itOk p.1 p.2) = true → ItsV K H vs us (as.zip bs)
  | _, _, _, _, .nil, .nil, _, _ => .nil
  | _, _, _, _, .nil, .cons _ _, e, _ => by cases e
  | _, _, _, _, .cons _ _, .nil, e, _ => by cases e
  | _, _, _, _, .cons h1 r1, .cons h2 r2, e, ok => by
    rw [List.zip_cons_cons, List.all_cons, Bool.and_eq_true] at ok
    exact .cons A B h1 h2 ok.1 (its_rep r1 r2 (by simpa using e) ok.2)
theorem sop_neLD : SOp K (rNeLD K) neLD := fun A H u v x y z Q al ru rv e q => by
  cases x with
  | lst as => cases y with
    | lst bs =>
      have e : (if (as.length == bs.length && (as.zip bs).all fun p => itOk p.1 p.2) = true then some (T.bl (!(as.zip bs).all fun p => itB p.1 p.2)) else none) = some z := e
      split at e
      · rename_i hs
        rw [Bool.and_eq_true, beq_iff_eq] at hs
        obtain ⟨a, vs, rfl, ha, ra⟩ := ru.lst
        obtain ⟨b, ws, rfl, hb, rb⟩ := rv.lst
        cases e
        exact ⟨a, b, vs, ws, _, rfl, rfl, .inl (.inl ha), .inl (.inl hb), its_rep ra rb hs.1 hs.2, q _ H (Ext.refl H) (.bl _)⟩
      · cases e
    | _ => cases e
  | _ => cases e
end
end Tr


set_option Elab.async false
set_option linter.all false
set_option maxRecDepth 100000
set_option maxHeartbeats 0
namespace L2
theorem Room.units70 {k : Nat} {A : PySem.Around} (r : Room k A) : A.units + 70 < PySem.cLine := by have := r.un; omega
end L2
namespace Tr
open PySem PySem.Spec PyProof.Rows L2
variable [Tabl]
/-! ### 27. sets of texts, ranges that go down -/
section
variable {sl : List Sl} {P : Sl → Prop} {a b : WE} {q : List T → Prop}
def rgDG (P : List T → Prop) (xs : List Sl) : Prop := ∃ m n : Int, xs = [.val (.int m), .val (.int n), .val (.int (-1))] ∧ (-(2 ^ 62) ≤ m ∧ m < 2 ^ 62 ∧ -(2 ^ 62) ≤ n ∧ n < 2 ^ 62) ∧ P (downTo m (m - n).toNat)
theorem x_rgD {e : WA} (h : e sl fun xs => rgDG q xs) : wiRngD e sl q := h
theorem x_rgDv {m n : Int} (h1 : -(2 ^ 62) ≤ m) (h2 : m < 2 ^ 62) (h3 : -(2 ^ 62) ≤ n) (h4 : n < 2 ^ 62) (h : q (downTo m (m - n).toNat)) : rgDG q [.val (.int m), .val (.int n), .val (.int (-1))] := ⟨m, n, rfl, ⟨h1, h2, h3, h4⟩, h⟩
theorem x_srtUv {zs ws : List Str} (h1 : zs.length ≤ 15) (h2 : ws.length ≤ 15) (h : P (.val (.lst ((SG.sortS (zs ++ ws)).map T.str)))) : ∃ vs : List Str, (Sl.val (.lst (ws.map T.str))).tree = some (.lst (vs.map T.str)) ∧ vs.length ≤ 15 ∧ P (.val (.lst ((SG.sortS (zs ++ vs)).map T.str))) := ⟨ws, rfl, h2, h⟩
end
end Tr


set_option Elab.async false
set_option linter.all false
set_option maxRecDepth 100000
set_option maxHeartbeats 0
/-! try as a statement: clauses with and without a name -/
namespace Tr
open PySem PySem.Spec PyProof.Rows L2
variable [Tabl]
abbrev HdS := Value × Option (Nat × Str) × (Addr → Value → Option Addr → WS)
def goneK (i : Nat) (k : Ks) : Ks := ⟨fun sl => k.nx (sl.set i .any), k.rt, fun sl => k.bk (sl.set i .any), fun sl => k.ct (sl.set i .any)⟩
def hdSAll (w : Addr → Value → Option Addr → WS) (cls : Value) (o : XF) (k : Ks) (sl : List Sl) : Option (Nat × Str) → Prop
  | none => ∀ a d, w a cls d k sl
  | some j => ∃ t, o = some (j.2, t) ∧ ∀ a dd, w a cls (some dd) (goneK j.1 k) (sl.set j.1 (.val (.exc a dd j.2 t)))
def wHdsS (em : Value → Value → Option Bool) (cls : Value) (o : XF) (k : Ks) (sl : List Sl) : List HdS → Prop
  | [] => False
  | (c, j, w) :: r => ∃ b, em cls c = some b ∧ (b = true → hdSAll w cls o k sl j) ∧ (b = false → wHdsS em cls o k sl r)
def wTryS (em : Value → Value → Option Bool) (l : List HdS) (wb : WSX) : WS := fun k sl => wb (fun cls o sl' => wHdsS em cls o k sl' l) k sl
def toC (K : PySem.W.Frag) (l : List HdS) : List Clause := l.map fun x => (x.1, x.2.1.map (·.1), fun a cls d => sOf K (x.2.2 a cls d))
section
variable {X : Cx} {W : L2.WX}
inductive HdsS (X : Cx) : List ExceptHandler → List HdS → Prop
  | nil : HdsS X [] []
  | bare {x : Str} {c : Value} {w : Addr → Value → Option Addr → WS} {b : Stmt} {bs : List Stmt} {p q : Pos} {hds : List ExceptHandler} {l : List HdS} (nm : Names X x c)
      (run : ∀ (a : Addr) (oe : Obj) (cls : Value) (d : Option Addr) (pn : List (Addr × Obj)), Zc cls d oe → (∃ vs, oe.data = .fields vs) → GSs (X.suite a ((a, oe) :: pn)) (b :: bs) (w a cls d)) (more : HdsS X hds l) :
      HdsS X (.ExceptHandler (some (.Name x p)) none (b :: bs) q :: hds) ((c, none, w) :: l)
  | as {x n f : Str} {i : Nat} {c : Value} {w : Addr → Value → Option Addr → WS} {b : Stmt} {bs : List Stmt} {p q : Pos} {hds : List ExceptHandler} {l : List HdS} (nm : Names X x c) (at_ : X.N[i]? = some n) (loc : X.env.kindOf n = some .local)
      (run : ∀ (a : Addr) (oe : Obj) (cls : Value) (d : Option Addr) (pn : List (Addr × Obj)), Zc cls d oe → (∃ vs, oe.data = .fields vs) → GSs (X.suite a ((a, oe) :: pn)) (b :: bs) (w a cls d)) (more : HdsS X hds l) :
      HdsS X (.ExceptHandler (some (.Name x p)) (some n) (b :: bs) q :: hds) ((c, some (i, f), w) :: l)
theorem HdsS.c {hds : List ExceptHandler} {l : List HdS} (h : HdsS X hds l) : Clauses X hds (toC X.K l) := by
  induction h with
  | nil => exact .nil
  | bare nm run more ih => exact .bare nm (fun a oe cls d pn hz hf => run a oe cls d pn hz hf) ih
  | as nm at_ loc run more ih => exact .as nm at_ loc (fun a oe cls d pn hz hf => run a oe cls d pn hz hf) ih
theorem mixS {K : PySem.W.Frag} {F : Fx} {D A : Avoid} {H : Hp} {σ : L2.St} {sl : List Sl} {k : Ks} {E : Ends} {cls : Value} {d : Option Addr} {o : XF} {n : Nat} (S : Sta K F D A H σ sl) (ex : ExcF K A H d o)
    (q1 : ∀ D' A' H' σ' sl', Sta K F D' A' H' σ' sl' → k.nx sl' → E.nx σ' H') (q2 : ∀ D' A' H' σ' sl', Sta K F D' A' H' σ' sl' → k.bk sl' → E.bk σ' H') (q3 : ∀ D' A' H' σ' sl', Sta K F D' A' H' σ' sl' → k.ct sl' → E.ct σ' H')
    (q4 : ∀ D' A' H' σ' sl' v x, Sta K F D' A' H' σ' sl' → SlOk K D' F.A0 A' H' v x → k.rt x → E.rt v H') : ∀ {l : List HdS}, wHdsS (PySem.W.exmOne K) cls o k sl l → wMix K n (fun _ _ _ _ => False) E (toC K l) cls d σ H
  | [], h => h
  | (c, none, w) :: r, ⟨b, h1, h2, h3⟩ => ⟨b, h1, fun hb a _ _ => by
    have h4 : ∀ a d, w a cls d k sl := h2 hb
    exact ⟨F, D, A, sl, k, S, h4 a d, q1, q2, q3, q4⟩, fun hb => mixS S ex q1 q2 q3 q4 (h3 hb)⟩
  | (c, some j, w) :: r, ⟨b, h1, h2, h3⟩ => ⟨b, h1, fun hb a _ _ => by
    have h4 : ∃ t, o = some (j.2, t) ∧ ∀ a dd, w a cls (some dd) (goneK j.1 k) (sl.set j.1 (.val (.exc a dd j.2 t))) := h2 hb
    obtain ⟨t, rfl, h5⟩ := h4
    obtain ⟨dd, v, rfl, e1, e2, e3⟩ := ex
    exact ⟨F, D, A, _, goneK j.1 k, S.set (i := j.1) (x := .val (.exc a dd j.2 t)) (Rep.exc e1 e2 e3) (fun _ _ z => nomatch z), h5 a dd, fun D' A' H' σ' sl' S' h => q1 _ _ _ _ _ (S'.wipe [j.1]) h, fun D' A' H' σ' sl' S' h => q2 _ _ _ _ _ (S'.wipe [j.1]) h, fun D' A' H' σ' sl' S' h => q3 _ _ _ _ _ (S'.wipe [j.1]) h, q4⟩, fun hb => mixS S ex q1 q2 q3 q4 (h3 hb)⟩
theorem gs_try {body : List Stmt} {h0 : ExceptHandler} {hds : List ExceptHandler} {l : List HdS} {wb : WSX} {pos : Pos} (nd : X.N.Nodup) (tk : Takes X fun _ _ _ _ => False)
    (walk : ∀ (W : L2.WX) (pn : List (Addr × Obj)) (xe : Value → Shared → Prop), Takes (X.tr pn xe) W → GSXs (X.tr pn xe) W body wb) (cl : HdsS X (h0 :: hds) l) (stk : X.stack = X.env :: X.outer := by rfl) (frm : X.env.frame = some X.env.locals := by rfl) :
    GS X (.Try body (h0 :: hds) [] [] pos) (wTryS (PySem.W.exmOne X.K) l wb) := gs_of (ps_try_mix (Wout := fun _ _ _ _ => False) (tb := fun W => sOfX X.K W wb) stk frm nd tk (fun W pn xe tk _ => walk W pn xe tk) cl.c) fun E σ H ⟨F, D, A, sl, k, S, hw, q1, q2, q3, q4⟩ =>
  ⟨F, D, A, sl, k, _, S, hw, q1, q2, q3, q4, fun D' A' H' σ' sl' cls d o S' hf hr => mixS S' hf q1 q2 q3 q4 hr⟩
/-- x = e, e may raise -/
def xAsg (e : WEX) (i : Nat) : WSX := fun R k sl => e (fun c o => R c o sl) sl fun x => storable x = true ∧ k.nx (sl.set i x)
theorem gx_asg (i : Nat) {x : Str} {e : Expr} {w : WEX} {p pos : Pos} (he : GEX X W e w) (hN : X.N.Nodup) (hi : X.N[i]? = some x := by rfl) (hx : Loc X.env.scope x := by first | exact Or.inl rfl | exact Or.inr rfl)
    (hf : X.fn x = true ∨ X.env.scope.names.lookup x = some .local := by first | exact .inl rfl | exact .inr rfl)
    (hs : swapsWithSole [.Name x p] e pos.line X.env = pure false := by rfl) (hw : swappedStores [.Name x p] e X.env = pure none := by rfl) (h1 : (assignEach [.Name x p] X.env).map (·.2) = [assign (.Name x p) X.env] := by rfl) :
    GSX X W (.Assign [.Name x p] e pos) (xAsg w i) := gx_of (ps_asg he (pg_name hN hi hx hf) hs hw h1) fun E σ H ⟨F, D, A, sl, k, R, S, hw, q1, _, _, _, q5⟩ =>
  ⟨F, D, A, sl, _, _, S, hw, fun v H1 x b1 ok hx => q1 _ _ _ _ _ ((S.beh b1).set ok (storable_own hx.1)) hx.2, fun H1 cls d o b1 hf hr => q5 _ _ _ _ _ _ _ o (S.beh b1) hf hr⟩
theorem ge_xfS {C a : Addr} {oe : Obj} {cls : Value} {d : Option Addr} {pn : List (Addr × Obj)} {x f : Str} {p pos : Pos} (i : Nat) (T : XfD X.K C f) (hz : Zc cls d oe) (hf : ∃ vs, oe.data = .fields vs) (hN : X.N[i]? = some x) (hv : Vis X.env.scope x) (hd : (x == ("__debug__" : Str)) = false := by decide) (hcd : (x == ("__classdict__" : Str)) = false := by decide)
    (hb : attributeBase (.Name x p) f X.env (eval (.Name x p) X.env) = eval (.Name x p) X.env := by rfl) : GE (X.suite a ((a, oe) :: pn)) (.Attribute (.Name x p) f pos) (wXf a cls d C i f) := by
  refine ge_of (pe_xf (C := C) T.1 T.2 hz hf (pe_var (i := i) hN hv hd hcd) hb) fun F D A H σ sl P Q S ⟨e1, dd, t, e2, e3, hp⟩ q => ?_
  obtain ⟨v, hv, ok⟩ := S.get (nth_val e3 (fun z => nomatch z)) (fun z => nomatch z)
  have r : Rep (X.suite a ((a, oe) :: pn)).K A H v (.exc a dd f t) := ok
  cases r with
  | exc n h r => exact ⟨_, hv, rfl, e1, dd, _, _, e2, h, by simp [List.lookup], q _ H (.val t) (Beh.refl S) r hp⟩
end
/-! steps -/
section
variable {em : Value → Value → Option Bool} {l : List HdS} {wb : WSX} {k : Ks} {sl : List Sl}
theorem x_try (h : wb (fun cls o sl' => wHdsS em cls o k sl' l) k sl) : wTryS em l wb k sl := h
theorem x_asgX {e : WEX} {i : Nat} {R : RXs} (h : e (fun c o => R c o sl) sl fun x => storable x = true ∧ k.nx (sl.set i x)) : xAsg e i R k sl := h
end
end Tr


set_option Elab.async false
set_option linter.all false
set_option maxRecDepth 100000
set_option maxHeartbeats 0
/-! defs that call themselves, or one another: readings by fuel -/
namespace Tr
open PySem PySem.Spec PyProof.Rows L2
variable [Tabl]
section
variable {P : Program} {w : World} {K : PySem.W.Frag} {mg : Str → Option Value} {base : Heap} {x qual : Str} {params : Arguments} {body : List Stmt} {scope : Scope} {kws : List (Str × V)} {f : Addr} {fd : FuncData} {ps : List Str} {k : Nat}
/-- what a def that calls itself is told of its own name -/
def SelfC (P : Program) (w : World) (K : PySem.W.Frag) (mg : Str → Option Value) (base : Heap) (x : Str) (f : Addr) (fd : FuncData) (ps : List Str) : Prop := ∀ (k : Nat) (wf : WF), FnOk P w K mg base CX0 k f fd ps (spT K wf) → CallD P w K mg base k x wf []
theorem SelfC.of (F : FunD K x qual params body scope [] kws f fd) (hm : mg x = some (.ref f))
    (h : ∀ (kV doc pm : Value) (an : Option Addr) (cdv ct : Value) (us : List Value), us.length = ps.length → bindArgs (PySem.W.fnOf x qual params body scope .none kV doc pm an cdv ct) ⟨us, []⟩ = pure (ps.zip us)) : SelfC P w K mg base x f fd ps := fun k wf G => CallD.of F G hm h
end
end Tr


set_option Elab.async false
set_option linter.all false
set_option maxRecDepth 100000
set_option maxHeartbeats 0
namespace My
open PySem PySem.Spec PyProof.Rows L2 Tr
def preDice (xs : List Sl) : Prop := ∃ (ns : List Int) (s : Int), xs = [.val (.scr (ns.map T.int)), .val (.int s)] ∧ ns.length ≤ 63 ∧ 0 ≤ s ∧ s < 64
section
variable [Tabl]
variable {P : Program} {w : World} {K : PySem.W.Frag} {mg : Str → Option Value} {base : Heap}
abbrev N__law_dice : List Str := ["script", "spot", "cell", "left"]
theorem sc__law_dice : FnScope N__law_dice ["script", "spot"] (defScope s__law_dice) := ⟨rfl, rfl, rfl, by decide +kernel, rfl, by decide +kernel, by decide +kernel⟩
def w__law_dice : List Sl → (List T → Prop) → Prop := (wrSeq (wAsg (wIfE (wB (wOp ltT (wVar 1) (wCB lenT (waCons (wVar 0) waNil)))) (wCB intT (waCons (wOp ixT (wVar 0) (wVar 1)) waNil)) (wOp addT (wOp mulT (wC (.int 83)) (wVar 1)) (wC (.int 57)))) 2) (wrSeq (wAsg (wOp modT (wCB max2T (waCons (wC (.int 0)) (waCons (wOp subT (wCB absT (waCons (wVar 2) waNil)) (wOp powT (wC (.int 10)) (wC (.int 16)))) waNil))) (wOp mulT (wOp powT (wC (.int 10)) (wC (.int 58))) (wOp powT (wC (.int 10)) (wC (.int 60))))) 3) (wLst (waCons (wVar 3) (waCons (wOp addT (wOp addT (wOp addT (wOp mulT (wOp modT (wCB absT (waCons (wVar 2) waNil)) (wC (.int 1152921504606846883))) (wC (.int 97))) (wOp mulT (wC (.int 1009)) (wVar 1))) (wOp mulT (wC (.int 53)) (wCB intT (waCons (wOp ltT (wVar 2) (wC (.int 0))) waNil)))) (wC (.int 29))) (waCons (wC (.int 0)) waNil))))))
theorem ok__law_dice {f : Addr} {fd : FuncData} (F : FunD K "_law_dice" "_law_dice" (defArgs s__law_dice) (defBody s__law_dice) (defScope s__law_dice) [] [] f fd) (b_abs : mg "abs" = none) (b_int : mg "int" = none) (b_max : mg "max" = none) (b_len : mg "len" = none) (hp : ∀ xs, preDice xs → xs.length = 2 ∧ w__law_dice (xs ++ List.replicate 2 .any) fun ts => ∃ a b c : Int, ts = [.int a, .int b, .int c]) : FnOk P w K mg base CX0 1 f fd ["script", "spot"] (spD K preDice) :=
  by
  refine fn_dice F sc__law_dice rfl rfl (fun cdv A outer s H E hr => ?_) hp
  exact (gr_cons (gs_asg 2 (ge_if (gt_cmp op_ltA sop_lt (ge_var 1) (ge_cb call_len sc_len (by rfl) b_len (by decide +kernel) (ga_cons (ge_var 0) ga_nil))) (ge_cty call_int1 sc_int (by rfl) b_int (by decide +kernel) (ga_cons (ge_ix (ge_var 0) (ge_var 1)) ga_nil)) (ge_op op_addA sop_add (ge_op op_mulA sop_mul ge_int (ge_var 1)) ge_int)) sc__law_dice.nd) (gr_cons (gs_asg 3 (ge_op op_mod sop_mod (ge_cb (call_max2 (by rfl)) sc_max2 (by rfl) b_max (by decide +kernel) (ga_cons ge_int (ga_cons (ge_op op_sub sop_sub (ge_cb call_abs sc_abs (by rfl) b_abs (by decide +kernel) (ga_cons (ge_var 2) ga_nil)) (ge_op op_powW sop_pow ge_int ge_int)) ga_nil))) (ge_op op_mulA sop_mul (ge_op op_powW sop_pow ge_int ge_int) (ge_op op_powW sop_pow ge_int ge_int))) sc__law_dice.nd) (gr_ret (gl_lst (ga_cons (ge_var 3) (ga_cons (ge_op op_addA sop_add (ge_op op_addA sop_add (ge_op op_addA sop_add (ge_op op_mulA sop_mul (ge_op op_mod sop_mod (ge_cb call_abs sc_abs (by rfl) b_abs (by decide +kernel) (ga_cons (ge_var 2) ga_nil)) ge_int) ge_int) (ge_op op_mulA sop_mul ge_int (ge_var 1))) (ge_op op_mulA sop_mul ge_int (ge_cty call_int1 sc_int (by rfl) b_int (by decide +kernel) (ga_cons (ge_cmp op_ltA sop_lt (ge_var 2) ge_int) ga_nil)))) ge_int) (ga_cons ge_int ga_nil)))))))

abbrev N_is_key : List Str := ["value", "letter"]
theorem sc_is_key : FnScope N_is_key ["value"] (defScope s_is_key) := ⟨rfl, rfl, rfl, by decide +kernel, rfl, by decide +kernel, by decide +kernel⟩
def w_is_key : WF := wDef 1 1 (wSeq (wIf (wOr (wNot (wTru (wCB isiT (waCons (wVar 0) (waCons (wC (.ty "str")) waNil))))) (wNot (wB (wChain leT leT (wC (.int 1)) (wCB lenT (waCons (wVar 0) waNil)) (wC (.int 8)))))) (wRet (wC (.bl false))) wNext) (wRet (wCB allT (waCons (wL (wLc (wiStr (wVar 0)) (Tg.name 1) wYes (wOp (inSg false) (wVar 1) (wC (.str "abcdefghijklmnopqrstuvwxyz"))) [1])) waNil))))
theorem ok_is_key {f : Addr} {fd : FuncData} (F : FunD K "is_key" "is_key" (defArgs s_is_key) (defBody s_is_key) (defScope s_is_key) [] [] f fd) (b_len : mg "len" = none) (c_MOST_KEY : ∃ t, mg "MOST_KEY" = some (.int 8 t)) (b_isinstance : mg "isinstance" = none) (b_str : mg "str" = none) (b_all : mg "all" = none) (c__LETTERS : ∃ t, mg "_LETTERS" = some (.str "abcdefghijklmnopqrstuvwxyz" t)) : FnOk P w K mg base CX0 1 f fd ["value"] (spT K w_is_key) :=
  by
  refine fn_tree F sc_is_key rfl rfl fun cdv A outer s H E hr => ?_
  refine (gss_cons (gs_if (GW.gt (gw_or (gt_not (gt_tru (ge_cb call_isi sc_isi (by rfl) b_isinstance (by decide +kernel) (ga_cons (ge_var 0) (ga_cons (ge_ty (by rfl) b_str (by decide +kernel)) ga_nil))))) (gw_or1 (gt_not (gt_chain op_leA op_leA sop_le sop_le ge_int (ge_cb call_len sc_len (by rfl) b_len (by decide +kernel) (ga_cons (ge_var 0) ga_nil)) (ge_globI (by rfl) c_MOST_KEY)))))) (gss_one (gs_ret ge_bl)) gss_nil) ?_)
  · refine (gss_one ?_)
    · refine (gs_ret ?_)
      · refine (ge_cb (cr_all (by rfl)) sc_all (by rfl) b_all (by decide +kernel) ?_)
        · refine (ga_cons ?_ ga_nil)
          · refine (GL.ge ?_)
            · refine (gl_lc (own := [("letter", 1)]) (g := (Tg.name 1)) (tt := tYes) (by rfl) sc_is_key.nd ?_ (by first | exact blkOk_by (own := [("letter", 1)]) (N := N_is_key) (sc := defScope s_is_key) (by decide +kernel) | exact blkOk_by (own := [("letter", 1)]) (N := N_is_key) (by kernel_rfl)) (fun _ _ _ _ _ => ?_) (fun _ _ _ _ _ => ?_) st_yes (fun _ _ _ _ _ => ?_) (by decide) (by intro _; rfl))
              · exact (gi_str (ge_var 0))
              · exact (pg_name (i := 1) sc_is_key.nd (by rfl) (by first | exact Or.inl rfl | exact Or.inr rfl) (by first | exact .inl rfl | exact .inr rfl))
              · exact pts_nil
              · exact (ge_cmp op_inS sop_inS (ge_var 1) (ge_globS (by rfl) c__LETTERS))

abbrev N_is_whole : List Str := ["value"]
theorem sc_is_whole : FnScope N_is_whole ["value"] (defScope s_is_whole) := ⟨rfl, rfl, rfl, by decide +kernel, rfl, by decide +kernel, by decide +kernel⟩
def w_is_whole : WF := wDef 1 0 (wSeq (wIf (wOr (wNot (wTru (wCB isiT (waCons (wVar 0) (waCons (wC (.ty "int")) waNil))))) (wTru (wCB isiT (waCons (wVar 0) (waCons (wC (.ty "bool")) waNil))))) (wRet (wC (.bl false))) wNext) (wRet (wChain leT leT (wUn negT (wC (.int 999999999999999999999999999999999999999999999999999999999999))) (wVar 0) (wC (.int 999999999999999999999999999999999999999999999999999999999999)))))
theorem ok_is_whole {f : Addr} {fd : FuncData} (F : FunD K "is_whole" "is_whole" (defArgs s_is_whole) (defBody s_is_whole) (defScope s_is_whole) [] [] f fd) (b_isinstance : mg "isinstance" = none) (b_bool : mg "bool" = none) (b_int : mg "int" = none) (c_MOST_WHOLE : ∃ t, mg "MOST_WHOLE" = some (.int 999999999999999999999999999999999999999999999999999999999999 t)) : FnOk P w K mg base CX0 1 f fd ["value"] (spT K w_is_whole) :=
  by
  refine fn_tree F sc_is_whole rfl rfl fun cdv A outer s H E hr => ?_
  exact (gss_cons (gs_if (GW.gt (gw_or (gt_not (gt_tru (ge_cb call_isi sc_isi (by rfl) b_isinstance (by decide +kernel) (ga_cons (ge_var 0) (ga_cons (ge_ty (by rfl) b_int (by decide +kernel)) ga_nil))))) (gw_or1 (gt_tru (ge_cb call_isi sc_isi (by rfl) b_isinstance (by decide +kernel) (ga_cons (ge_var 0) (ga_cons (ge_ty (by rfl) b_bool (by decide +kernel)) ga_nil))))))) (gss_one (gs_ret ge_bl)) gss_nil) (gss_one (gs_ret (ge_chain op_leA op_leA sop_le sop_le (ge_neg (ge_globI (by rfl) c_MOST_WHOLE)) (ge_var 0) (ge_globI (by rfl) c_MOST_WHOLE)))))

abbrev N_is_within : List Str := ["value", "low", "high"]
theorem sc_is_within : FnScope N_is_within ["value", "low", "high"] (defScope s_is_within) := ⟨rfl, rfl, rfl, by decide +kernel, rfl, by decide +kernel, by decide +kernel⟩
def w_is_within : WF := wDef 3 0 (wRet (wAndV (wCall w_is_whole [] (waCons (wVar 0) waNil)) (wChain leT leT (wVar 1) (wVar 0) (wVar 2))))
theorem ok_is_within {f : Addr} {fd : FuncData} (F : FunD K "is_within" "is_within" (defArgs s_is_within) (defBody s_is_within) (defScope s_is_within) [.int 999999999999999999999999999999999999999999999999999999999999] [] f fd) (D_is_whole : CallD P w K mg base 1 "is_whole" w_is_whole []) : FnOk P w K mg base CX0 2 f fd ["value", "low", "high"] (spT K w_is_within) :=
  by
  refine fn_tree F sc_is_within rfl rfl fun cdv A outer s H E hr => ?_
  exact (gss_one (gs_ret (ge_and (ge_callD D_is_whole hr (by rfl) CTs.nil (ga_cons (ge_var 0) ga_nil)) (ge_one (ge_chain op_leA op_leA sop_le sop_le (ge_var 1) (ge_var 0) (ge_var 2))))))

abbrev N_is_value : List Str := ["value"]
theorem sc_is_value : FnScope N_is_value ["value"] (defScope s_is_value) := ⟨rfl, rfl, rfl, by decide +kernel, rfl, by decide +kernel, by decide +kernel⟩
def w_is_value : WF := wDef 1 0 (wRet (wCall w_is_within [] (waCons (wVar 0) (waCons (wUn negT (wC (.int 999999999999))) (waCons (wC (.int 999999999999)) waNil)))))
theorem ok_is_value {f : Addr} {fd : FuncData} (F : FunD K "is_value" "is_value" (defArgs s_is_value) (defBody s_is_value) (defScope s_is_value) [] [] f fd) (D_is_within_3 : CallD P w K mg base 2 "is_within" w_is_within []) (c_MOST_VALUE : ∃ t, mg "MOST_VALUE" = some (.int 999999999999 t)) : FnOk P w K mg base CX0 3 f fd ["value"] (spT K w_is_value) :=
  by
  refine fn_tree F sc_is_value rfl rfl fun cdv A outer s H E hr => ?_
  exact (gss_one (gs_ret (ge_callD D_is_within_3 hr (by rfl) CTs.nil (ga_cons (ge_var 0) (ga_cons (ge_neg (ge_globI (by rfl) c_MOST_VALUE)) (ga_cons (ge_globI (by rfl) c_MOST_VALUE) ga_nil))))))

abbrev N_is_pairs : List Str := ["value", "key", "told"]
theorem sc_is_pairs : FnScope N_is_pairs ["value"] (defScope s_is_pairs) := ⟨rfl, rfl, rfl, by decide +kernel, rfl, by decide +kernel, by decide +kernel⟩
def w_is_pairs : WF := wDef 1 2 (wSeq (wIf (wOr (wNot (wTru (wCB isiT (waCons (wVar 0) (waCons (wC (.ty "dict")) waNil))))) (wB (wOp gtT (wLenD (waCons (wVar 0) waNil)) (wC (.int 10000))))) (wRet (wC (.bl false))) wNext) (wRet (wCB allT (waCons (wL (wLcI (wpVar 0) mkI (Tg.names [1, 2]) wYes (wAndV (wCall w_is_key [] (waCons (wVar 1) waNil)) (wCall w_is_value [] (waCons (wVar 2) waNil))) [1, 2])) waNil))))
theorem ok_is_pairs {f : Addr} {fd : FuncData} (F : FunD K "is_pairs" "is_pairs" (defArgs s_is_pairs) (defBody s_is_pairs) (defScope s_is_pairs) [] [] f fd) (b_len : mg "len" = none) (c_MOST_KEYS : ∃ t, mg "MOST_KEYS" = some (.int 10000 t)) (b_isinstance : mg "isinstance" = none) (b_dict : mg "dict" = none) (b_all : mg "all" = none) (D_is_value : CallD P w K mg base 3 "is_value" w_is_value []) (D_is_key : CallD P w K mg base 1 "is_key" w_is_key []) : FnOk P w K mg base CX0 4 f fd ["value"] (spT K w_is_pairs) :=
  by
  refine fn_tree F sc_is_pairs rfl rfl fun cdv A outer s H E hr => ?_
  refine (gss_cons (gs_if (GW.gt (gw_or (gt_not (gt_tru (ge_cb call_isi sc_isi (by rfl) b_isinstance (by decide +kernel) (ga_cons (ge_var 0) (ga_cons (ge_ty (by rfl) b_dict (by decide +kernel)) ga_nil))))) (gw_or1 (gt_cmp op_gtA sop_gt (ge_lenD (by rfl) b_len (by decide +kernel) (ga_cons (ge_var 0) ga_nil)) (ge_globI (by rfl) c_MOST_KEYS))))) (gss_one (gs_ret ge_bl)) gss_nil) ?_)
  · refine (gss_one ?_)
    · refine (gs_ret ?_)
      · refine (ge_cb (cr_all (by rfl)) sc_all (by rfl) b_all (by decide +kernel) ?_)
        · refine (ga_cons ?_ ga_nil)
          · refine (GL.ge ?_)
            · refine (gl_lcI (own := [("key", 1), ("told", 2)]) (g := (Tg.names [1, 2])) (tt := tYes) (by rfl) sc_is_pairs.nd di_items (pd_var (i := 0)) (pi_itemsV 0) (by first | exact blkOk_by (own := [("key", 1), ("told", 2)]) (N := N_is_pairs) (sc := defScope s_is_pairs) (by decide +kernel) | exact blkOk_by (own := [("key", 1), ("told", 2)]) (N := N_is_pairs) (by kernel_rfl)) (fun _ _ _ _ _ => ?_) (fun _ _ _ _ _ => ?_) st_yes (fun _ _ _ _ _ => ?_) (by decide) (by intro _; rfl))
              · exact (pg_tup (by rfl) (pgs_cons (pg_name (i := 1) sc_is_pairs.nd (by rfl) (by first | exact Or.inl rfl | exact Or.inr rfl) (by first | exact .inl rfl | exact .inr rfl)) (pgs_cons (pg_name (i := 2) sc_is_pairs.nd (by rfl) (by first | exact Or.inl rfl | exact Or.inr rfl) (by first | exact .inl rfl | exact .inr rfl)) pgs_nil)))
              · exact pts_nil
              · exact (ge_and (ge_callD D_is_key hr (by rfl) CTs.nil (ga_cons (ge_var 1) ga_nil)) (ge_one (ge_callD D_is_value hr (by rfl) CTs.nil (ga_cons (ge_var 2) ga_nil))))

abbrev N_need_pairs : List Str := ["pairs"]
theorem sc_need_pairs : FnScope N_need_pairs ["pairs"] (defScope s_need_pairs) := ⟨rfl, rfl, rfl, by decide +kernel, rfl, by decide +kernel, by decide +kernel⟩
def w_need_pairs : WF := wDef 1 0 (wIf (wNot (wTru (wCall w_is_pairs [] (waCons (wVar 0) waNil)))) wNever wNext)
theorem ok_need_pairs {f : Addr} {fd : FuncData} (F : FunD K "need_pairs" "need_pairs" (defArgs s_need_pairs) (defBody s_need_pairs) (defScope s_need_pairs) [] [] f fd) (D_is_pairs : CallD P w K mg base 4 "is_pairs" w_is_pairs []) : FnOk P w K mg base CX0 5 f fd ["pairs"] (spT K w_need_pairs) :=
  by
  refine fn_tree F sc_need_pairs rfl rfl fun cdv A outer s H E hr => ?_
  exact (gss_one (gs_if (gt_not (gt_tru (ge_callD D_is_pairs hr (by rfl) CTs.nil (ga_cons (ge_var 0) ga_nil)))) (gss_one gs_never) gss_nil))

abbrev N_are_ascending : List Str := ["keys", "early", "late"]
theorem sc_are_ascending : FnScope N_are_ascending ["keys"] (defScope s_are_ascending) := ⟨rfl, rfl, rfl, by decide +kernel, rfl, by decide +kernel, by decide +kernel⟩
def w_are_ascending : WF := wDef 1 2 (wRet (wCB allT (waCons (wL (wLc (wiZipA (waCons (wVar 0) (waCons (wSl (wVar 0) (woSome (wC (.int 1))) woNone) waNil))) (Tg.names [1, 2]) wYes (wOp ltT (wVar 1) (wVar 2)) [1, 2])) waNil)))
theorem ok_are_ascending {f : Addr} {fd : FuncData} (F : FunD K "are_ascending" "are_ascending" (defArgs s_are_ascending) (defBody s_are_ascending) (defScope s_are_ascending) [] [] f fd) (b_all : mg "all" = none) (b_zip : mg "zip" = none) : FnOk P w K mg base CX0 1 f fd ["keys"] (spT K w_are_ascending) :=
  by
  refine fn_tree F sc_are_ascending rfl rfl fun cdv A outer s H E hr => ?_
  refine (gss_one ?_)
  · refine (gs_ret ?_)
    · refine (ge_cb (cr_all (by rfl)) sc_all (by rfl) b_all (by decide +kernel) ?_)
      · refine (ga_cons ?_ ga_nil)
        · refine (GL.ge ?_)
          · refine (gl_lc (own := [("early", 1), ("late", 2)]) (g := (Tg.names [1, 2])) (tt := tYes) (by rfl) sc_are_ascending.nd ?_ (by first | exact blkOk_by (own := [("early", 1), ("late", 2)]) (N := N_are_ascending) (sc := defScope s_are_ascending) (by decide +kernel) | exact blkOk_by (own := [("early", 1), ("late", 2)]) (N := N_are_ascending) (by kernel_rfl)) (fun _ _ _ _ _ => ?_) (fun _ _ _ _ _ => ?_) st_yes (fun _ _ _ _ _ => ?_) (by decide) (by intro _; rfl))
            · exact (gi_zipA (by rfl) b_zip (ga_cons (ge_var 0) (ga_cons (ge_sl (ge_var 0) (go_some ge_int) go_none) ga_nil)))
            · exact (pg_tup (by rfl) (pgs_cons (pg_name (i := 1) sc_are_ascending.nd (by rfl) (by first | exact Or.inl rfl | exact Or.inr rfl) (by first | exact .inl rfl | exact .inr rfl)) (pgs_cons (pg_name (i := 2) sc_are_ascending.nd (by rfl) (by first | exact Or.inl rfl | exact Or.inr rfl) (by first | exact .inl rfl | exact .inr rfl)) pgs_nil)))
            · exact pts_nil
            · exact (ge_cmp op_ltA sop_lt (ge_var 1) (ge_var 2))

abbrev N_is_value_or_none : List Str := ["value"]
theorem sc_is_value_or_none : FnScope N_is_value_or_none ["value"] (defScope s_is_value_or_none) := ⟨rfl, rfl, rfl, by decide +kernel, rfl, by decide +kernel, by decide +kernel⟩
def w_is_value_or_none : WF := wDef 1 0 (wRet (wOrV (wIsN false (wVar 0)) (wCall w_is_value [] (waCons (wVar 0) waNil))))
theorem ok_is_value_or_none {f : Addr} {fd : FuncData} (F : FunD K "is_value_or_none" "is_value_or_none" (defArgs s_is_value_or_none) (defBody s_is_value_or_none) (defScope s_is_value_or_none) [] [] f fd) (D_is_value : CallD P w K mg base 3 "is_value" w_is_value []) : FnOk P w K mg base CX0 4 f fd ["value"] (spT K w_is_value_or_none) :=
  by
  refine fn_tree F sc_is_value_or_none rfl rfl fun cdv A outer s H E hr => ?_
  exact (gss_one (gs_ret (ge_or (ge_isN (ge_var 0)) (ge_one (ge_callD D_is_value hr (by rfl) CTs.nil (ga_cons (ge_var 0) ga_nil))))))

abbrev N__is_setting : List Str := ["value"]
theorem sc__is_setting : FnScope N__is_setting ["value"] (defScope s__is_setting) := ⟨rfl, rfl, rfl, by decide +kernel, rfl, by decide +kernel, by decide +kernel⟩
def w__is_setting : WF := wDef 1 0 (wSeq (wIf (wOr (wNot (wTru (wCB isiT (waCons (wVar 0) (waCons (wC (.ty "tuple")) waNil))))) (wB (wOp neT (wCB lenT (waCons (wVar 0) waNil)) (wC (.int 2))))) (wRet (wC (.bl false))) wNext) (wRet (wAndV (wCall w_is_key [] (waCons (wOp ixT (wVar 0) (wC (.int 0))) waNil)) (wCall w_is_value_or_none [] (waCons (wOp ixT (wVar 0) (wC (.int 1))) waNil)))))
theorem ok__is_setting {f : Addr} {fd : FuncData} (F : FunD K "_is_setting" "_is_setting" (defArgs s__is_setting) (defBody s__is_setting) (defScope s__is_setting) [] [] f fd) (b_len : mg "len" = none) (b_isinstance : mg "isinstance" = none) (b_tuple : mg "tuple" = none) (D_is_value_or_none : CallD P w K mg base 4 "is_value_or_none" w_is_value_or_none []) (D_is_key : CallD P w K mg base 1 "is_key" w_is_key []) : FnOk P w K mg base CX0 5 f fd ["value"] (spT K w__is_setting) :=
  by
  refine fn_tree F sc__is_setting rfl rfl fun cdv A outer s H E hr => ?_
  exact (gss_cons (gs_if (GW.gt (gw_or (gt_not (gt_tru (ge_cb call_isi sc_isi (by rfl) b_isinstance (by decide +kernel) (ga_cons (ge_var 0) (ga_cons (ge_ty (by rfl) b_tuple (by decide +kernel)) ga_nil))))) (gw_or1 (gt_cmp (op_neD hr.units) sop_ne (ge_cb call_len sc_len (by rfl) b_len (by decide +kernel) (ga_cons (ge_var 0) ga_nil)) ge_int)))) (gss_one (gs_ret ge_bl)) gss_nil) (gss_one (gs_ret (ge_and (ge_callD D_is_key hr (by rfl) CTs.nil (ga_cons (ge_ix (ge_var 0) ge_int) ga_nil)) (ge_one (ge_callD D_is_value_or_none hr (by rfl) CTs.nil (ga_cons (ge_ix (ge_var 0) ge_int) ga_nil)))))))

abbrev N_is_deed : List Str := ["value", "key", "_", "setting"]
theorem sc_is_deed : FnScope N_is_deed ["value"] (defScope s_is_deed) := ⟨rfl, rfl, rfl, by decide +kernel, rfl, by decide +kernel, by decide +kernel⟩
def w_is_deed : WF := wDef 1 3 (wSeq (wIf (wOr (wNot (wTru (wCB isiT (waCons (wVar 0) (waCons (wC (.ty "tuple")) waNil))))) (wNot (wB (wChain leT leT (wC (.int 1)) (wCB lenT (waCons (wVar 0) waNil)) (wC (.int 6)))))) (wRet (wC (.bl false))) wNext) (wSeq (wIf (wNot (wTru (wCB allT (waCons (wL (wLc (wiSeq (wVar 0)) (Tg.name 3) wYes (wCall w__is_setting [] (waCons (wVar 3) waNil)) [3])) waNil)))) (wRet (wC (.bl false))) wNext) (wRet (wCall w_are_ascending [] (waCons (wL (wLc (wiSeq (wVar 0)) (Tg.names [1, 2]) wYes (wVar 1) [1, 2])) waNil)))))
theorem ok_is_deed {f : Addr} {fd : FuncData} (F : FunD K "is_deed" "is_deed" (defArgs s_is_deed) (defBody s_is_deed) (defScope s_is_deed) [] [] f fd) (b_len : mg "len" = none) (c_MOST_SET : ∃ t, mg "MOST_SET" = some (.int 6 t)) (b_isinstance : mg "isinstance" = none) (b_tuple : mg "tuple" = none) (b_all : mg "all" = none) (D__is_setting : CallD P w K mg base 5 "_is_setting" w__is_setting []) (D_are_ascending : CallD P w K mg base 1 "are_ascending" w_are_ascending []) : FnOk P w K mg base CX0 6 f fd ["value"] (spT K w_is_deed) :=
  by
  refine fn_tree F sc_is_deed rfl rfl fun cdv A outer s H E hr => ?_
  refine (gss_cons (gs_if (GW.gt (gw_or (gt_not (gt_tru (ge_cb call_isi sc_isi (by rfl) b_isinstance (by decide +kernel) (ga_cons (ge_var 0) (ga_cons (ge_ty (by rfl) b_tuple (by decide +kernel)) ga_nil))))) (gw_or1 (gt_not (gt_chain op_leA op_leA sop_le sop_le ge_int (ge_cb call_len sc_len (by rfl) b_len (by decide +kernel) (ga_cons (ge_var 0) ga_nil)) (ge_globI (by rfl) c_MOST_SET)))))) (gss_one (gs_ret ge_bl)) gss_nil) ?_)
  · refine (gss_cons ?_ ?_)
    · refine (gs_if ?_ (gss_one (gs_ret ge_bl)) gss_nil)
      · refine (gt_not ?_)
        · refine (gt_tru ?_)
          · refine (ge_cb (cr_all (by rfl)) sc_all (by rfl) b_all (by decide +kernel) ?_)
            · refine (ga_cons ?_ ga_nil)
              · refine (GL.ge ?_)
                · refine (gl_lc (own := [("setting", 3)]) (g := (Tg.name 3)) (tt := tYes) (by rfl) sc_is_deed.nd ?_ (by first | exact blkOk_by (own := [("setting", 3)]) (N := N_is_deed) (sc := defScope s_is_deed) (by decide +kernel) | exact blkOk_by (own := [("setting", 3)]) (N := N_is_deed) (by kernel_rfl)) (fun _ _ _ _ _ => ?_) (fun _ _ _ _ _ => ?_) st_yes (fun _ _ _ _ _ => ?_) (by decide) (by intro _; rfl))
                  · exact (gi_seq (ge_var 0))
                  · exact (pg_name (i := 3) sc_is_deed.nd (by rfl) (by first | exact Or.inl rfl | exact Or.inr rfl) (by first | exact .inl rfl | exact .inr rfl))
                  · exact pts_nil
                  · exact (ge_callD D__is_setting hr (by rfl) CTs.nil (ga_cons (ge_var 3) ga_nil))
    · refine (gss_one ?_)
      · refine (gs_ret ?_)
        · refine (ge_callD D_are_ascending hr (by rfl) CTs.nil ?_)
          · refine (ga_cons ?_ ga_nil)
            · refine (GL.ge ?_)
              · refine (gl_lc (own := [("key", 1), ("_", 2)]) (g := (Tg.names [1, 2])) (tt := tYes) (by rfl) sc_is_deed.nd ?_ (by first | exact blkOk_by (own := [("key", 1), ("_", 2)]) (N := N_is_deed) (sc := defScope s_is_deed) (by decide +kernel) | exact blkOk_by (own := [("key", 1), ("_", 2)]) (N := N_is_deed) (by kernel_rfl)) (fun _ _ _ _ _ => ?_) (fun _ _ _ _ _ => ?_) st_yes (fun _ _ _ _ _ => ?_) (by decide) (by intro _; rfl))
                · exact (gi_seq (ge_var 0))
                · exact (pg_tup (by rfl) (pgs_cons (pg_name (i := 1) sc_is_deed.nd (by rfl) (by first | exact Or.inl rfl | exact Or.inr rfl) (by first | exact .inl rfl | exact .inr rfl)) (pgs_cons (pg_name (i := 2) sc_is_deed.nd (by rfl) (by first | exact Or.inl rfl | exact Or.inr rfl) (by first | exact .inl rfl | exact .inr rfl)) pgs_nil)))
                · exact pts_nil
                · exact (ge_var 1)

abbrev N_need_deed : List Str := ["deed"]
theorem sc_need_deed : FnScope N_need_deed ["deed"] (defScope s_need_deed) := ⟨rfl, rfl, rfl, by decide +kernel, rfl, by decide +kernel, by decide +kernel⟩
def w_need_deed : WF := wDef 1 0 (wIf (wNot (wTru (wCall w_is_deed [] (waCons (wVar 0) waNil)))) wNever wNext)
theorem ok_need_deed {f : Addr} {fd : FuncData} (F : FunD K "need_deed" "need_deed" (defArgs s_need_deed) (defBody s_need_deed) (defScope s_need_deed) [] [] f fd) (D_is_deed : CallD P w K mg base 6 "is_deed" w_is_deed []) : FnOk P w K mg base CX0 7 f fd ["deed"] (spT K w_need_deed) :=
  by
  refine fn_tree F sc_need_deed rfl rfl fun cdv A outer s H E hr => ?_
  exact (gss_one (gs_if (gt_not (gt_tru (ge_callD D_is_deed hr (by rfl) CTs.nil (ga_cons (ge_var 0) ga_nil)))) (gss_one gs_never) gss_nil))

abbrev N_ascending : List Str := ["table", "key"]
theorem sc_ascending : FnScope N_ascending ["table"] (defScope s_ascending) := ⟨rfl, rfl, rfl, by decide +kernel, rfl, by decide +kernel, by decide +kernel⟩
def w_ascending : WF := wDef 1 1 (wRet (wD (wDc (wiSeq (wL (wSortK (waCons (wVar 0) waNil)))) (Tg.name 1) wYes (wVar 1) (wDGet (wVar 0) (wVar 1)) [1])))
theorem ok_ascending {f : Addr} {fd : FuncData} (F : FunD K "ascending" "ascending" (defArgs s_ascending) (defBody s_ascending) (defScope s_ascending) [] [] f fd) (b_sorted : mg "sorted" = none) : FnOk P w K mg base CX0 1 f fd ["table"] (spT K w_ascending) :=
  by
  refine fn_tree F sc_ascending rfl rfl fun cdv A outer s H E hr => ?_
  refine (gss_one ?_)
  · refine (gs_ret ?_)
    · refine (GD.ge ?_)
      · refine (gd_dc (own := [("key", 1)]) (g := (Tg.name 1)) (tt := tYes) (by rfl) sc_ascending.nd ?_ (by first | exact blkOk_by (own := [("key", 1)]) (N := N_ascending) (sc := defScope s_ascending) (by decide +kernel) | exact blkOk_by (own := [("key", 1)]) (N := N_ascending) (by kernel_rfl)) (fun _ _ _ _ _ => ?_) (fun _ _ _ _ _ => ?_) st_yes (fun _ _ _ _ _ => ?_) (fun _ _ _ _ _ => ?_) (by decide) (by intro _; rfl))
        · exact (gi_seq (GL.ge (gl_sortK (by rfl) hr (by rfl) b_sorted (by decide +kernel) (ga_cons (ge_var 0) ga_nil))))
        · exact (pg_name (i := 1) sc_ascending.nd (by rfl) (by first | exact Or.inl rfl | exact Or.inr rfl) (by first | exact .inl rfl | exact .inr rfl))
        · exact pts_nil
        · exact (ge_var 1)
        · exact (ge_dget hr (ge_var 0) (ge_var 1))

abbrev N_done_on : List Str := ["pairs", "deeds", "state", "deed", "key", "value"]
theorem sc_done_on : FnScope N_done_on ["pairs", "deeds"] (defScope s_done_on) := ⟨rfl, rfl, rfl, by decide +kernel, rfl, by decide +kernel, by decide +kernel⟩
def w_done_on : WF := wDef 2 4 (wSeq (wOwnD (wDCopy (waCons (wVar 0) waNil)) 2) (wSeq (wFor (wiSeq (wVar 1)) (Tg.name 3) (wFor (wiSeq (wVar 3)) (Tg.names [4, 5]) (wIf (wB (wIsN false (wVar 5))) (wDPop 2 (wVar 4) (wC .non)) (wDPut 2 (wVar 4) (wVar 5))))) (wFrzD 2 (wRet (wCall w_ascending [] (waCons (wVar 2) waNil))))))
theorem ok_done_on {f : Addr} {fd : FuncData} (F : FunD K "done_on" "done_on" (defArgs s_done_on) (defBody s_done_on) (defScope s_done_on) [] [] f fd) (b_dict : mg "dict" = none) (D_ascending : CallD P w K mg base 1 "ascending" w_ascending []) : FnOk P w K mg base CX0 2 f fd ["pairs", "deeds"] (spT K w_done_on) :=
  by
  refine fn_tree F sc_done_on rfl rfl fun cdv A outer s H E hr => ?_
  exact (gss_cons (gs_ownD 2 (gd_copy (by rfl) b_dict (by decide +kernel) (ga_cons (ge_var 0) ga_nil)) sc_done_on.nd) (gss_cons (gs_for (g := (Tg.name 3)) PassesOwn.never (by rfl) (gi_seq (ge_var 1)) (pg_name (i := 3) sc_done_on.nd (by rfl) (by first | exact Or.inl rfl | exact Or.inr rfl) (by first | exact .inl rfl | exact .inr rfl)) (gss_one (gs_for (g := (Tg.names [4, 5])) PassesOwn.never (by rfl) (gi_seq (ge_var 3)) (pg_tup (by rfl) (pgs_cons (pg_name (i := 4) sc_done_on.nd (by rfl) (by first | exact Or.inl rfl | exact Or.inr rfl) (by first | exact .inl rfl | exact .inr rfl)) (pgs_cons (pg_name (i := 5) sc_done_on.nd (by rfl) (by first | exact Or.inl rfl | exact Or.inr rfl) (by first | exact .inl rfl | exact .inr rfl)) pgs_nil))) (gss_one (gs_if (gt_isN (ge_var 5)) (gss_one (gs_dpop 2 hr (ge_var 4) ge_non ⟨rfl, rfl, rfl, rfl⟩)) (gss_one (gs_dput 2 hr (ge_var 4) (ge_var 5)))))))) (gss_frzD 2 (gss_one (gs_ret (ge_callD D_ascending hr (by rfl) CTs.nil (ga_cons (ge_var 2) ga_nil)))))))

abbrev N_done : List Str := ["pairs", "deed", "state"]
theorem sc_done : FnScope N_done ["pairs", "deed"] (defScope s_done) := ⟨rfl, rfl, rfl, by decide +kernel, rfl, by decide +kernel, by decide +kernel⟩
def w_done : WF := wDef 2 1 (wSeq (wDrop (wCall w_need_pairs [] (waCons (wVar 0) waNil))) (wSeq (wDrop (wCall w_need_deed [] (waCons (wVar 1) waNil))) (wSeq (wAsg (wCall w_done_on [] (waCons (wVar 0) (waCons (wTup (waCons (wVar 1) waNil)) waNil))) 2) (wSeq (wIf (wB (wOp gtT (wLenD (waCons (wVar 2) waNil)) (wC (.int 10000)))) wNever wNext) (wRet (wVar 2))))))
theorem ok_done {f : Addr} {fd : FuncData} (F : FunD K "done" "done" (defArgs s_done) (defBody s_done) (defScope s_done) [] [] f fd) (D_need_pairs : CallD P w K mg base 5 "need_pairs" w_need_pairs []) (D_need_deed : CallD P w K mg base 7 "need_deed" w_need_deed []) (D_done_on : CallD P w K mg base 2 "done_on" w_done_on []) (b_len : mg "len" = none) (c_MOST_KEYS : ∃ t, mg "MOST_KEYS" = some (.int 10000 t)) : FnOk P w K mg base CX0 8 f fd ["pairs", "deed"] (spT K w_done) :=
  by
  refine fn_tree F sc_done rfl rfl fun cdv A outer s H E hr => ?_
  exact (gss_cons (gs_expr (ge_callD D_need_pairs hr (by rfl) CTs.nil (ga_cons (ge_var 0) ga_nil))) (gss_cons (gs_expr (ge_callD D_need_deed hr (by rfl) CTs.nil (ga_cons (ge_var 1) ga_nil))) (gss_cons (gs_asg 2 (ge_callD D_done_on hr (by rfl) CTs.nil (ga_cons (ge_var 0) (ga_cons (ge_tup (ga_cons (ge_var 1) ga_nil)) ga_nil))) sc_done.nd) (gss_cons (gs_if (gt_cmp op_gtA sop_gt (ge_lenD (by rfl) b_len (by decide +kernel) (ga_cons (ge_var 2) ga_nil)) (ge_globI (by rfl) c_MOST_KEYS)) (gss_one gs_never) gss_nil) (gss_one (gs_ret (ge_var 2)))))))

abbrev N__need_deeds : List Str := ["deeds", "deed"]
theorem sc__need_deeds : FnScope N__need_deeds ["deeds"] (defScope s__need_deeds) := ⟨rfl, rfl, rfl, by decide +kernel, rfl, by decide +kernel, by decide +kernel⟩
def w__need_deeds : WF := wDef 1 1 (wIf (wOr (wNot (wTru (wCB isiT (waCons (wVar 0) (waCons (wC (.ty "tuple")) waNil))))) (wOr (wB (wOp gtT (wCB lenT (waCons (wVar 0) waNil)) (wC (.int 1500)))) (wNot (wTru (wCB allT (waCons (wL (wLc (wiSeq (wVar 0)) (Tg.name 1) wYes (wCall w_is_deed [] (waCons (wVar 1) waNil)) [1])) waNil)))))) wNever wNext)
theorem ok__need_deeds {f : Addr} {fd : FuncData} (F : FunD K "_need_deeds" "_need_deeds" (defArgs s__need_deeds) (defBody s__need_deeds) (defScope s__need_deeds) [] [] f fd) (b_all : mg "all" = none) (D_is_deed : CallD P w K mg base 6 "is_deed" w_is_deed []) (b_len : mg "len" = none) (c_MOST_DEEDS : ∃ t, mg "MOST_DEEDS" = some (.int 1500 t)) (b_isinstance : mg "isinstance" = none) (b_tuple : mg "tuple" = none) : FnOk P w K mg base CX0 7 f fd ["deeds"] (spT K w__need_deeds) :=
  by
  refine fn_tree F sc__need_deeds rfl rfl fun cdv A outer s H E hr => ?_
  refine (gss_one ?_)
  · refine (gs_if ?_ (gss_one gs_never) gss_nil)
    · refine (GW.gt ?_)
      · refine (gw_or (gt_not (gt_tru (ge_cb call_isi sc_isi (by rfl) b_isinstance (by decide +kernel) (ga_cons (ge_var 0) (ga_cons (ge_ty (by rfl) b_tuple (by decide +kernel)) ga_nil))))) ?_)
        · refine (gw_or (gt_cmp op_gtA sop_gt (ge_cb call_len sc_len (by rfl) b_len (by decide +kernel) (ga_cons (ge_var 0) ga_nil)) (ge_globI (by rfl) c_MOST_DEEDS)) ?_)
          · refine (gw_or1 ?_)
            · refine (gt_not ?_)
              · refine (gt_tru ?_)
                · refine (ge_cb (cr_all (by rfl)) sc_all (by rfl) b_all (by decide +kernel) ?_)
                  · refine (ga_cons ?_ ga_nil)
                    · refine (GL.ge ?_)
                      · refine (gl_lc (own := [("deed", 1)]) (g := (Tg.name 1)) (tt := tYes) (by rfl) sc__need_deeds.nd ?_ (by first | exact blkOk_by (own := [("deed", 1)]) (N := N__need_deeds) (sc := defScope s__need_deeds) (by decide +kernel) | exact blkOk_by (own := [("deed", 1)]) (N := N__need_deeds) (by kernel_rfl)) (fun _ _ _ _ _ => ?_) (fun _ _ _ _ _ => ?_) st_yes (fun _ _ _ _ _ => ?_) (by decide) (by intro _; rfl))
                        · exact (gi_seq (ge_var 0))
                        · exact (pg_name (i := 1) sc__need_deeds.nd (by rfl) (by first | exact Or.inl rfl | exact Or.inr rfl) (by first | exact .inl rfl | exact .inr rfl))
                        · exact pts_nil
                        · exact (ge_callD D_is_deed hr (by rfl) CTs.nil (ga_cons (ge_var 1) ga_nil))

abbrev N_behind : List Str := ["deeds"]
theorem sc_behind : FnScope N_behind ["deeds"] (defScope s_behind) := ⟨rfl, rfl, rfl, by decide +kernel, rfl, by decide +kernel, by decide +kernel⟩
def w_behind : WF := wDef 1 0 (wSeq (wDrop (wCall w__need_deeds [] (waCons (wVar 0) waNil))) (wRet (wCall w_done_on [] (waCons wDct0 (waCons (wVar 0) waNil)))))
theorem ok_behind {f : Addr} {fd : FuncData} (F : FunD K "behind" "behind" (defArgs s_behind) (defBody s_behind) (defScope s_behind) [] [] f fd) (D__need_deeds : CallD P w K mg base 7 "_need_deeds" w__need_deeds []) (D_done_on : CallD P w K mg base 2 "done_on" w_done_on []) : FnOk P w K mg base CX0 8 f fd ["deeds"] (spT K w_behind) :=
  by
  refine fn_tree F sc_behind rfl rfl fun cdv A outer s H E hr => ?_
  exact (gss_cons (gs_expr (ge_callD D__need_deeds hr (by rfl) CTs.nil (ga_cons (ge_var 0) ga_nil))) (gss_one (gs_ret (ge_callD D_done_on hr (by rfl) CTs.nil (ga_cons ge_dct0 (ga_cons (ge_var 0) ga_nil))))))

abbrev N_unlike_keys : List Str := ["one", "other", "keys", "key"]
theorem sc_unlike_keys : FnScope N_unlike_keys ["one", "other"] (defScope s_unlike_keys) := ⟨rfl, rfl, rfl, by decide +kernel, rfl, by decide +kernel, by decide +kernel⟩
def w_unlike_keys : WF := wDef 2 2 (wSeq (wDrop (wCall w_need_pairs [] (waCons (wVar 0) waNil))) (wSeq (wDrop (wCall w_need_pairs [] (waCons (wVar 1) waNil))) (wSeq (wAsg (wSrtU (wL (wListK (waCons (wVar 0) waNil))) (wL (wListK (waCons (wVar 1) waNil)))) 2) (wRet (wCB tupleT (waCons (wL (wLc (wiSeq (wVar 2)) (Tg.name 3) (wB (wOp neT (wDGet1 (wVar 0) (wVar 3)) (wDGet1 (wVar 1) (wVar 3)))) (wVar 3) [3])) waNil))))))
theorem ok_unlike_keys {f : Addr} {fd : FuncData} (F : FunD K "unlike_keys" "unlike_keys" (defArgs s_unlike_keys) (defBody s_unlike_keys) (defScope s_unlike_keys) [] [] f fd) (D_need_pairs : CallD P w K mg base 5 "need_pairs" w_need_pairs []) (b_sorted : mg "sorted" = none) (b_set : mg "set" = none) (b_list : mg "list" = none) (b_tuple : mg "tuple" = none) : FnOk P w K mg base CX0 6 f fd ["one", "other"] (spT K w_unlike_keys) :=
  by
  refine fn_tree F sc_unlike_keys rfl rfl fun cdv A outer s H E hr => ?_
  refine (gss_cons (gs_expr (ge_callD D_need_pairs hr (by rfl) CTs.nil (ga_cons (ge_var 0) ga_nil))) ?_)
  · refine (gss_cons (gs_expr (ge_callD D_need_pairs hr (by rfl) CTs.nil (ga_cons (ge_var 1) ga_nil))) ?_)
    · refine (gss_cons (gs_asg 2 (ge_srtU hr (by rfl) b_sorted (by rfl) b_set (GL.ge (gl_listK (by rfl) (by rfl) b_list (by decide +kernel) (ga_cons (ge_var 0) ga_nil))) (GL.ge (gl_listK (by rfl) (by rfl) b_list (by decide +kernel) (ga_cons (ge_var 1) ga_nil)))) sc_unlike_keys.nd) ?_)
      · refine (gss_one ?_)
        · refine (gs_ret ?_)
          · refine (ge_cty call_tuple_of sc_tuple (by rfl) b_tuple (by decide +kernel) ?_)
            · refine (ga_cons ?_ ga_nil)
              · refine (GL.ge ?_)
                · refine (gl_lc (own := [("key", 3)]) (g := (Tg.name 3)) (tt := _) (by rfl) sc_unlike_keys.nd ?_ (by first | exact blkOk_by (own := [("key", 3)]) (N := N_unlike_keys) (sc := defScope s_unlike_keys) (by decide +kernel) | exact blkOk_by (own := [("key", 3)]) (N := N_unlike_keys) (by kernel_rfl)) (fun _ _ _ _ _ => ?_) (fun _ _ _ _ _ => ?_) st_self (fun _ _ _ _ _ => ?_) (by decide) (by intro _; rfl))
                  · exact (gi_seq (ge_var 2))
                  · exact (pg_name (i := 3) sc_unlike_keys.nd (by rfl) (by first | exact Or.inl rfl | exact Or.inr rfl) (by first | exact .inl rfl | exact .inr rfl))
                  · exact (pts_one (gt_cmp (op_neD hr.units) sop_ne (ge_dget1 hr (ge_var 0) (ge_var 3)) (ge_dget1 hr (ge_var 1) (ge_var 3))))
                  · exact (ge_var 3)

abbrev N__law_ds_unlike : List Str := ["one", "other", "name"]
theorem sc__law_ds_unlike : FnScope N__law_ds_unlike ["one", "other"] (defScope s__law_ds_unlike) := ⟨rfl, rfl, rfl, by decide +kernel, rfl, by decide +kernel, by decide +kernel⟩
def w__law_ds_unlike : WF := wDef 2 1 (wRet (wCB tupleT (waCons (wL (wLc (wiSeq (wSrtS (wOp addT (wL (wListK (waCons (wVar 0) waNil))) (wL (wListK (waCons (wVar 1) waNil)))))) (Tg.name 2) (wB (wOp neT (wDGet2 (wVar 0) (wVar 2) (wC .non)) (wDGet2 (wVar 1) (wVar 2) (wC .non)))) (wVar 2) [2])) waNil)))
theorem ok__law_ds_unlike {f : Addr} {fd : FuncData} (F : FunD K "_law_ds_unlike" "_law_ds_unlike" (defArgs s__law_ds_unlike) (defBody s__law_ds_unlike) (defScope s__law_ds_unlike) [] [] f fd) (b_tuple : mg "tuple" = none) (b_sorted : mg "sorted" = none) (b_set : mg "set" = none) (b_list : mg "list" = none) : FnOk P w K mg base CX0 1 f fd ["one", "other"] (spT K w__law_ds_unlike) :=
  by
  refine fn_tree F sc__law_ds_unlike rfl rfl fun cdv A outer s H E hr => ?_
  refine (gss_one ?_)
  · refine (gs_ret ?_)
    · refine (ge_cty call_tuple_of sc_tuple (by rfl) b_tuple (by decide +kernel) ?_)
      · refine (ga_cons ?_ ga_nil)
        · refine (GL.ge ?_)
          · refine (gl_lc (own := [("name", 2)]) (g := (Tg.name 2)) (tt := _) (by rfl) sc__law_ds_unlike.nd ?_ (by first | exact blkOk_by (own := [("name", 2)]) (N := N__law_ds_unlike) (sc := defScope s__law_ds_unlike) (by decide +kernel) | exact blkOk_by (own := [("name", 2)]) (N := N__law_ds_unlike) (by kernel_rfl)) (fun _ _ _ _ _ => ?_) (fun _ _ _ _ _ => ?_) st_self (fun _ _ _ _ _ => ?_) (by decide) (by intro _; rfl))
            · exact (gi_seq (ge_srtS hr (by rfl) b_sorted (by rfl) b_set (ge_op op_addA sop_add (GL.ge (gl_listK (by rfl) (by rfl) b_list (by decide +kernel) (ga_cons (ge_var 0) ga_nil))) (GL.ge (gl_listK (by rfl) (by rfl) b_list (by decide +kernel) (ga_cons (ge_var 1) ga_nil))))))
            · exact (pg_name (i := 2) sc__law_ds_unlike.nd (by rfl) (by first | exact Or.inl rfl | exact Or.inr rfl) (by first | exact .inl rfl | exact .inr rfl))
            · exact (pts_one (gt_cmp (op_neD hr.units) sop_ne (ge_dget2 hr (ge_var 0) (ge_var 2) ge_non) (ge_dget2 hr (ge_var 1) (ge_var 2) ge_non)))
            · exact (ge_var 2)

abbrev N_deed_between : List Str := ["one", "other", "keys", "key"]
theorem sc_deed_between : FnScope N_deed_between ["one", "other"] (defScope s_deed_between) := ⟨rfl, rfl, rfl, by decide +kernel, rfl, by decide +kernel, by decide +kernel⟩
def w_deed_between : WF := wDef 2 2 (wSeq (wAsg (wCall w_unlike_keys [] (waCons (wVar 0) (waCons (wVar 1) waNil))) 2) (wSeq (wIf (wB (wOp gtT (wCB lenT (waCons (wVar 2) waNil)) (wC (.int 6)))) wNever wNext) (wSeq (wIf (wNot (wTru (wVar 2))) (wRet (wC .non)) wNext) (wRet (wCB tupleT (waCons (wL (wLc (wiSeq (wVar 2)) (Tg.name 3) wYes (wTup (waCons (wVar 3) (waCons (wDGet1 (wVar 1) (wVar 3)) waNil))) [3])) waNil))))))
theorem ok_deed_between {f : Addr} {fd : FuncData} (F : FunD K "deed_between" "deed_between" (defArgs s_deed_between) (defBody s_deed_between) (defScope s_deed_between) [] [] f fd) (D_unlike_keys : CallD P w K mg base 6 "unlike_keys" w_unlike_keys []) (b_len : mg "len" = none) (c_MOST_SET : ∃ t, mg "MOST_SET" = some (.int 6 t)) (b_tuple : mg "tuple" = none) : FnOk P w K mg base CX0 7 f fd ["one", "other"] (spT K w_deed_between) :=
  by
  refine fn_tree F sc_deed_between rfl rfl fun cdv A outer s H E hr => ?_
  refine (gss_cons (gs_asg 2 (ge_callD D_unlike_keys hr (by rfl) CTs.nil (ga_cons (ge_var 0) (ga_cons (ge_var 1) ga_nil))) sc_deed_between.nd) ?_)
  · refine (gss_cons (gs_if (gt_cmp op_gtA sop_gt (ge_cb call_len sc_len (by rfl) b_len (by decide +kernel) (ga_cons (ge_var 2) ga_nil)) (ge_globI (by rfl) c_MOST_SET)) (gss_one gs_never) gss_nil) ?_)
    · refine (gss_cons (gs_if (gt_not (gt_tru (ge_var 2))) (gss_one (gs_ret ge_non)) gss_nil) ?_)
      · refine (gss_one ?_)
        · refine (gs_ret ?_)
          · refine (ge_cty call_tuple_of sc_tuple (by rfl) b_tuple (by decide +kernel) ?_)
            · refine (ga_cons ?_ ga_nil)
              · refine (GL.ge ?_)
                · refine (gl_lc (own := [("key", 3)]) (g := (Tg.name 3)) (tt := tYes) (by rfl) sc_deed_between.nd ?_ (by first | exact blkOk_by (own := [("key", 3)]) (N := N_deed_between) (sc := defScope s_deed_between) (by decide +kernel) | exact blkOk_by (own := [("key", 3)]) (N := N_deed_between) (by kernel_rfl)) (fun _ _ _ _ _ => ?_) (fun _ _ _ _ _ => ?_) st_yes (fun _ _ _ _ _ => ?_) (by decide) (by intro _; rfl))
                  · exact (gi_seq (ge_var 2))
                  · exact (pg_name (i := 3) sc_deed_between.nd (by rfl) (by first | exact Or.inl rfl | exact Or.inr rfl) (by first | exact .inl rfl | exact .inr rfl))
                  · exact pts_nil
                  · exact (ge_tup (ga_cons (ge_var 3) (ga_cons (ge_dget1 hr (ge_var 1) (ge_var 3)) ga_nil)))

abbrev N__law_ds_done : List Str := ["pairs", "deed", "found", "name"]
theorem sc__law_ds_done : FnScope N__law_ds_done ["pairs", "deed"] (defScope s__law_ds_done) := ⟨rfl, rfl, rfl, by decide +kernel, rfl, by decide +kernel, by decide +kernel⟩
def w__law_ds_done : WF := wDef 2 2 (wSeq (wAsg (wD (wDictM (waCons (wOp addT (wL (wItemsL (wVar 0))) (wL (wLstOf (waCons (wVar 1) waNil)))) waNil))) 2) (wRet (wDictP (waCons (wL (wLc (wiSeq (wL (wSortK (waCons (wVar 2) waNil)))) (Tg.name 3) (wB (wIsN true (wDGet (wVar 2) (wVar 3)))) (wTup (waCons (wVar 3) (waCons (wDGet (wVar 2) (wVar 3)) waNil))) [3])) waNil))))
theorem ok__law_ds_done {f : Addr} {fd : FuncData} (F : FunD K "_law_ds_done" "_law_ds_done" (defArgs s__law_ds_done) (defBody s__law_ds_done) (defScope s__law_ds_done) [] [] f fd) (b_dict : mg "dict" = none) (b_list : mg "list" = none) (b_sorted : mg "sorted" = none) : FnOk P w K mg base CX0 1 f fd ["pairs", "deed"] (spT K w__law_ds_done) :=
  by
  refine fn_tree F sc__law_ds_done rfl rfl fun cdv A outer s H E hr => ?_
  refine (gss_cons (gs_asg 2 (GD.ge (gd_dictM (by rfl) (by rfl) b_dict (by decide +kernel) (ga_cons (ge_op op_addA sop_add (GL.ge (gl_itemsL (by rfl) (ge_var 0) (by rfl) b_list (by decide +kernel))) (GL.ge (gl_list (by rfl) b_list (by decide +kernel) (ga_cons (ge_var 1) ga_nil)))) ga_nil))) sc__law_ds_done.nd) ?_)
  · refine (gss_one ?_)
    · refine (gs_ret ?_)
      · refine (ge_dictP (by rfl) (by rfl) b_dict (by decide +kernel) ?_)
        · refine (ga_cons ?_ ga_nil)
          · refine (GL.ge ?_)
            · refine (gl_lc (own := [("name", 3)]) (g := (Tg.name 3)) (tt := _) (by rfl) sc__law_ds_done.nd ?_ (by first | exact blkOk_by (own := [("name", 3)]) (N := N__law_ds_done) (sc := defScope s__law_ds_done) (by decide +kernel) | exact blkOk_by (own := [("name", 3)]) (N := N__law_ds_done) (by kernel_rfl)) (fun _ _ _ _ _ => ?_) (fun _ _ _ _ _ => ?_) st_self (fun _ _ _ _ _ => ?_) (by decide) (by intro _; rfl))
              · exact (gi_seq (GL.ge (gl_sortK (by rfl) hr (by rfl) b_sorted (by decide +kernel) (ga_cons (ge_var 2) ga_nil))))
              · exact (pg_name (i := 3) sc__law_ds_done.nd (by rfl) (by first | exact Or.inl rfl | exact Or.inr rfl) (by first | exact .inl rfl | exact .inr rfl))
              · exact (pts_one (gt_notN (ge_dget hr (ge_var 2) (ge_var 3))))
              · exact (ge_tup (ga_cons (ge_var 3) (ga_cons (ge_dget hr (ge_var 2) (ge_var 3)) ga_nil)))

abbrev N__law_ds_states : List Str := ["deeds", "found", "deed"]
theorem sc__law_ds_states : FnScope N__law_ds_states ["deeds"] (defScope s__law_ds_states) := ⟨rfl, rfl, rfl, by decide +kernel, rfl, by decide +kernel, by decide +kernel⟩
def w__law_ds_states : WF := wDef 1 2 (wSeq (wOwn (wLst (waCons wDct0 waNil)) 1) (wSeq (wFor (wiSeq (wVar 0)) (Tg.name 2) (wApp 1 (wCall w__law_ds_done [] (waCons (wOp ixT (wVar 1) (wUn negT (wC (.int 1)))) (waCons (wVar 2) waNil))))) (wFrz 1 (wRet (wVar 1)))))
theorem ok__law_ds_states {f : Addr} {fd : FuncData} (F : FunD K "_law_ds_states" "_law_ds_states" (defArgs s__law_ds_states) (defBody s__law_ds_states) (defScope s__law_ds_states) [] [] f fd) (D__law_ds_done : CallD P w K mg base 1 "_law_ds_done" w__law_ds_done []) : FnOk P w K mg base CX0 2 f fd ["deeds"] (spT K w__law_ds_states) :=
  by
  refine fn_tree F sc__law_ds_states rfl rfl fun cdv A outer s H E hr => ?_
  exact (gss_cons (gs_own 1 (gl_lst (ga_cons ge_dct0 ga_nil)) sc__law_ds_states.nd) (gss_cons (gs_for (g := (Tg.name 2)) PassesOwn.never (by rfl) (gi_seq (ge_var 0)) (pg_name (i := 2) sc__law_ds_states.nd (by rfl) (by first | exact Or.inl rfl | exact Or.inr rfl) (by first | exact .inl rfl | exact .inr rfl)) (gss_one (gs_app 1 (ge_callD D__law_ds_done hr (by rfl) CTs.nil (ga_cons (ge_ix (ge_var 1) (ge_neg ge_int)) (ga_cons (ge_var 2) ga_nil)))))) (gss_frz 1 (gss_one (gs_ret (ge_var 1))))))

abbrev N__law_roll : List Str := ["dice", "most", "found", "one", "two"]
theorem sc__law_roll : FnScope N__law_roll ["dice", "most"] (defScope s__law_roll) := ⟨rfl, rfl, rfl, by decide +kernel, rfl, by decide +kernel, by decide +kernel⟩
def w__law_roll : WF := wDef 2 3 (wSeq (wIf (wB (wOp gtT (wDix 0) (wC (.int 0)))) (wSeq (wAsg (wOp modT (wCB intT (waCons (wDix 0) waNil)) (wVar 1)) 2) (wSeq (wDst 0 (wOp divT (wDix 0) (wVar 1))) (wRet (wVar 2)))) wNext) (wSeq (wDst 0 (wOp addT (wDix 0) (wC (.int 1)))) (wSeq (wAsg (wOp modT (wCB intT (waCons (wOp addT (wDix 0) (wOp mulT (wC (.int 68718953)) (wDix 0))) waNil)) (wC (.int 2305843009213693487))) 3) (wSeq (wAsg (wOp addT (wOp mulT (wOp modT (wCB intT (waCons (wOp addT (wOp mulT (wVar 3) (wVar 3)) (wOp mulT (wC (.int 83)) (wDix 0))) waNil)) (wC (.int 2305843009213693253))) (wC (.int 7368787))) (wVar 3)) 4) (wRet (wOp modT (wCB intT (waCons (wOp divT (wVar 4) (wC (.int 65563))) waNil)) (wVar 1)))))))
theorem ok__law_roll {f : Addr} {fd : FuncData} (F : FunD K "_law_roll" "_law_roll" (defArgs s__law_roll) (defBody s__law_roll) (defScope s__law_roll) [] [] f fd) (b_int : mg "int" = none) : FnOk P w K mg base CX0 1 f fd ["dice", "most"] (spT K w__law_roll) :=
  by
  refine fn_tree F sc__law_roll rfl rfl fun cdv A outer s H E hr => ?_
  exact (gss_cons (gs_if (gt_cmp op_gtA sop_gt (ge_dix 0 (j := 0) (by decide)) ge_int) (gss_cons (gs_asg 2 (ge_op op_mod sop_mod (ge_cty call_int1 sc_int (by rfl) b_int (by decide +kernel) (ga_cons (ge_dix 0 (j := 0) (by decide)) ga_nil)) (ge_var 1)) sc__law_roll.nd) (gss_cons (gs_dst 0 (j := 0) (by decide) (ge_op op_fdivW sop_div (ge_dix 0 (j := 0) (by decide)) (ge_var 1))) (gss_one (gs_ret (ge_var 2))))) gss_nil) (gss_cons (gs_dst 0 (j := 2) (by decide) (ge_op op_addA sop_add (ge_dix 0 (j := 2) (by decide)) ge_int)) (gss_cons (gs_asg 3 (ge_op op_mod sop_mod (ge_cty call_int1 sc_int (by rfl) b_int (by decide +kernel) (ga_cons (ge_op op_addA sop_add (ge_dix 0 (j := 1) (by decide)) (ge_op op_mulA sop_mul ge_int (ge_dix 0 (j := 2) (by decide)))) ga_nil)) ge_int) sc__law_roll.nd) (gss_cons (gs_asg 4 (ge_op op_addA sop_add (ge_op op_mulA sop_mul (ge_op op_mod sop_mod (ge_cty call_int1 sc_int (by rfl) b_int (by decide +kernel) (ga_cons (ge_op op_addA sop_add (ge_op op_mulA sop_mul (ge_var 3) (ge_var 3)) (ge_op op_mulA sop_mul ge_int (ge_dix 0 (j := 2) (by decide)))) ga_nil)) ge_int) ge_int) (ge_var 3)) sc__law_roll.nd) (gss_one (gs_ret (ge_op op_mod sop_mod (ge_cty call_int1 sc_int (by rfl) b_int (by decide +kernel) (ga_cons (ge_op op_fdivW sop_div (ge_var 4) ge_int) ga_nil)) (ge_var 1))))))))

abbrev N__law_shuffled : List Str := ["dice", "items", "left", "found"]
theorem sc__law_shuffled : FnScope N__law_shuffled ["dice", "items"] (defScope s__law_shuffled) := ⟨rfl, rfl, rfl, by decide +kernel, rfl, by decide +kernel, by decide +kernel⟩
def w__law_shuffled : WF := wDef 2 2 (wSeq (wParOO 2 3 (wLstOf (waCons (wVar 1) waNil)) (wLst waNil)) (wSeq (wWhile (wB (wOp neE (wVar 2) (wL (wLst waNil)))) (wAppPop 3 2 (wCall w__law_roll [] (waCons (wVar 0) (waCons (wCB lenT (waCons (wVar 2) waNil)) waNil))))) (wFrz 2 (wFrz 3 (wRet (wVar 3))))))
theorem ok__law_shuffled {f : Addr} {fd : FuncData} (F : FunD K "_law_shuffled" "_law_shuffled" (defArgs s__law_shuffled) (defBody s__law_shuffled) (defScope s__law_shuffled) [] [] f fd) (b_list : mg "list" = none) (D__law_roll : CallD P w K mg base 1 "_law_roll" w__law_roll []) (b_len : mg "len" = none) : FnOk P w K mg base CX0 2 f fd ["dice", "items"] (spT K w__law_shuffled) :=
  by
  refine fn_tree F sc__law_shuffled rfl rfl fun cdv A outer s H E hr => ?_
  exact (gss_cons (gs_parOO 2 3 (by rfl) sc__law_shuffled.nd (by rfl) (by rfl) (by decide) (by rfl) (by rfl) (gl_list (by rfl) b_list (by decide +kernel) (ga_cons (ge_var 1) ga_nil)) (gl_lst ga_nil) (by rfl)) (gss_cons (gs_while PassesOwn.never (gt_cmp (op_neE hr.units0) sop_neE (ge_var 2) (GL.ge (gl_lst ga_nil))) (gss_one (gs_appPop 3 2 (ge_callD D__law_roll hr (by rfl) CTs.nil (ga_cons (ge_var 0) (ga_cons (ge_cb call_len sc_len (by rfl) b_len (by decide +kernel) (ga_cons (ge_var 2) ga_nil)) ga_nil)))))) (gss_frz 2 (gss_frz 3 (gss_one (gs_ret (ge_var 3)))))))

abbrev N__law_pick : List Str := ["dice", "items"]
theorem sc__law_pick : FnScope N__law_pick ["dice", "items"] (defScope s__law_pick) := ⟨rfl, rfl, rfl, by decide +kernel, rfl, by decide +kernel, by decide +kernel⟩
def w__law_pick : WF := wDef 2 0 (wRet (wOp ixT (wVar 1) (wCall w__law_roll [] (waCons (wVar 0) (waCons (wCB lenT (waCons (wVar 1) waNil)) waNil)))))
theorem ok__law_pick {f : Addr} {fd : FuncData} (F : FunD K "_law_pick" "_law_pick" (defArgs s__law_pick) (defBody s__law_pick) (defScope s__law_pick) [] [] f fd) (D__law_roll : CallD P w K mg base 1 "_law_roll" w__law_roll []) (b_len : mg "len" = none) : FnOk P w K mg base CX0 2 f fd ["dice", "items"] (spT K w__law_pick) :=
  by
  refine fn_tree F sc__law_pick rfl rfl fun cdv A outer s H E hr => ?_
  exact (gss_one (gs_ret (ge_ix (ge_var 1) (ge_callD D__law_roll hr (by rfl) CTs.nil (ga_cons (ge_var 0) (ga_cons (ge_cb call_len sc_len (by rfl) b_len (by decide +kernel) (ga_cons (ge_var 1) ga_nil)) ga_nil))))))

abbrev N__law_ds_value : List Str := ["dice"]
theorem sc__law_ds_value : FnScope N__law_ds_value ["dice"] (defScope s__law_ds_value) := ⟨rfl, rfl, rfl, by decide +kernel, rfl, by decide +kernel, by decide +kernel⟩
def w__law_ds_value : WF := wDef 1 0 (wRet (wCall w__law_pick [] (waCons (wVar 0) (waCons (wL (wLst (waCons (wC .non) (waCons (wC .non) (waCons (wC (.int 0)) (waCons (wC (.int 1)) (waCons (wUn negT (wC (.int 1))) (waCons (wC (.int 7)) (waCons (wOp subT (wOp powT (wC (.int 10)) (wC (.int 12))) (wC (.int 1))) (waCons (wOp subT (wC (.int 1)) (wOp powT (wC (.int 10)) (wC (.int 12)))) (waCons (wOp subT (wCall w__law_roll [] (waCons (wVar 0) (waCons (wC (.int 9)) waNil))) (wC (.int 4))) waNil))))))))))) waNil))))
theorem ok__law_ds_value {f : Addr} {fd : FuncData} (F : FunD K "_law_ds_value" "_law_ds_value" (defArgs s__law_ds_value) (defBody s__law_ds_value) (defScope s__law_ds_value) [] [] f fd) (D__law_pick : CallD P w K mg base 2 "_law_pick" w__law_pick []) (D__law_roll : CallD P w K mg base 1 "_law_roll" w__law_roll []) : FnOk P w K mg base CX0 3 f fd ["dice"] (spT K w__law_ds_value) :=
  by
  refine fn_tree F sc__law_ds_value rfl rfl fun cdv A outer s H E hr => ?_
  exact (gss_one (gs_ret (ge_callD D__law_pick hr (by rfl) CTs.nil (ga_cons (ge_var 0) (ga_cons (GL.ge (gl_lst (ga_cons ge_non (ga_cons ge_non (ga_cons ge_int (ga_cons ge_int (ga_cons (ge_neg ge_int) (ga_cons ge_int (ga_cons (ge_op op_sub sop_sub (ge_op op_powW sop_pow ge_int ge_int) ge_int) (ga_cons (ge_op op_sub sop_sub ge_int (ge_op op_powW sop_pow ge_int ge_int)) (ga_cons (ge_op op_sub sop_sub (ge_callD D__law_roll hr (by rfl) CTs.nil (ga_cons (ge_var 0) (ga_cons ge_int ga_nil))) ge_int) ga_nil))))))))))) ga_nil)))))

abbrev N__law_ds_deed : List Str := ["dice", "keys", "names", "name"]
theorem sc__law_ds_deed : FnScope N__law_ds_deed ["dice", "keys"] (defScope s__law_ds_deed) := ⟨rfl, rfl, rfl, by decide +kernel, rfl, by decide +kernel, by decide +kernel⟩
def w__law_ds_deed : WF := wDef 2 2 (wSeq (wAsg (wL (wSorted (waCons (wSl (wCall w__law_shuffled [] (waCons (wVar 0) (waCons (wVar 1) waNil))) woNone (woSome (wOp addT (wC (.int 1)) (wCall w__law_roll [] (waCons (wVar 0) (waCons (wC (.int 6)) waNil)))))) waNil))) 2) (wRet (wCB tupleT (waCons (wL (wLc (wiSeq (wVar 2)) (Tg.name 3) wYes (wTup (waCons (wVar 3) (waCons (wCall w__law_ds_value [] (waCons (wVar 0) waNil)) waNil))) [3])) waNil))))
theorem ok__law_ds_deed {f : Addr} {fd : FuncData} (F : FunD K "_law_ds_deed" "_law_ds_deed" (defArgs s__law_ds_deed) (defBody s__law_ds_deed) (defScope s__law_ds_deed) [] [] f fd) (b_sorted : mg "sorted" = none) (D__law_shuffled : CallD P w K mg base 2 "_law_shuffled" w__law_shuffled []) (D__law_roll : CallD P w K mg base 1 "_law_roll" w__law_roll []) (b_tuple : mg "tuple" = none) (D__law_ds_value : CallD P w K mg base 3 "_law_ds_value" w__law_ds_value []) : FnOk P w K mg base CX0 4 f fd ["dice", "keys"] (spT K w__law_ds_deed) :=
  by
  refine fn_tree F sc__law_ds_deed rfl rfl fun cdv A outer s H E hr => ?_
  refine (gss_cons (gs_asg 2 (GL.ge (gl_sorted hr (by rfl) b_sorted (by decide +kernel) (ga_cons (ge_sl (ge_callD D__law_shuffled hr (by rfl) CTs.nil (ga_cons (ge_var 0) (ga_cons (ge_var 1) ga_nil))) go_none (go_some (ge_op op_addA sop_add ge_int (ge_callD D__law_roll hr (by rfl) CTs.nil (ga_cons (ge_var 0) (ga_cons ge_int ga_nil)))))) ga_nil))) sc__law_ds_deed.nd) ?_)
  · refine (gss_one ?_)
    · refine (gs_ret ?_)
      · refine (ge_cty call_tuple_of sc_tuple (by rfl) b_tuple (by decide +kernel) ?_)
        · refine (ga_cons ?_ ga_nil)
          · refine (GL.ge ?_)
            · refine (gl_lc (own := [("name", 3)]) (g := (Tg.name 3)) (tt := tYes) (by rfl) sc__law_ds_deed.nd ?_ (by first | exact blkOk_by (own := [("name", 3)]) (N := N__law_ds_deed) (sc := defScope s__law_ds_deed) (by decide +kernel) | exact blkOk_by (own := [("name", 3)]) (N := N__law_ds_deed) (by kernel_rfl)) (fun _ _ _ _ _ => ?_) (fun _ _ _ _ _ => ?_) st_yes (fun _ _ _ _ _ => ?_) (by decide) (by intro _; rfl))
              · exact (gi_seq (ge_var 2))
              · exact (pg_name (i := 3) sc__law_ds_deed.nd (by rfl) (by first | exact Or.inl rfl | exact Or.inr rfl) (by first | exact .inl rfl | exact .inr rfl))
              · exact pts_nil
              · exact (ge_tup (ga_cons (ge_var 3) (ga_cons (ge_callD D__law_ds_value hr (by rfl) CTs.nil (ga_cons (ge_var 0) ga_nil)) ga_nil)))

abbrev N__law_ds_keys : List Str := []
theorem sc__law_ds_keys : FnScope N__law_ds_keys [] (defScope s__law_ds_keys) := ⟨rfl, rfl, rfl, by decide +kernel, rfl, by decide +kernel, by decide +kernel⟩
def w__law_ds_keys : WF := wDef 0 0 (wRet (wL (wLst (waCons (wC (.str "a")) (waCons (wC (.str "abcdefgh")) (waCons (wC (.str "b")) (waCons (wC (.str "c")) (waCons (wC (.str "d")) (waCons (wC (.str "e")) (waCons (wC (.str "key")) (waCons (wC (.str "zz")) (waCons (wC (.str "zzzzzzzz")) waNil))))))))))))
theorem ok__law_ds_keys {f : Addr} {fd : FuncData} (F : FunD K "_law_ds_keys" "_law_ds_keys" (defArgs s__law_ds_keys) (defBody s__law_ds_keys) (defScope s__law_ds_keys) [] [] f fd)  : FnOk P w K mg base CX0 1 f fd [] (spT K w__law_ds_keys) :=
  by
  refine fn_tree F sc__law_ds_keys rfl rfl fun cdv A outer s H E hr => ?_
  exact (gss_one (gs_ret (GL.ge (gl_lst (ga_cons ge_str (ga_cons ge_str (ga_cons ge_str (ga_cons ge_str (ga_cons ge_str (ga_cons ge_str (ga_cons ge_str (ga_cons ge_str (ga_cons ge_str ga_nil)))))))))))))
end
end My


set_option Elab.async false
set_option linter.all false
set_option maxRecDepth 100000
set_option maxHeartbeats 0
namespace My
open PySem PySem.Spec PyProof.Rows L2 Tr
section
variable [Tabl]
variable {P : Program} {w : World} {K : PySem.W.Frag} {mg : Str → Option Value} {base : Heap}
def wx_need_pairs (cN : Str → Addr) : WFX := wDefX 1 0 (xIf (wNot (wTru (wCall w_is_pairs [] (waCons (wVar 0) waNil)))) (xRaise (cN "InvalidValue")) xN)
def wx_need_deed (cN : Str → Addr) : WFX := wDefX 1 0 (xIf (wNot (wTru (wCall w_is_deed [] (waCons (wVar 0) waNil)))) (xRaise (cN "InvalidDeed")) xN)
def wx_done (cN : Str → Addr) : WFX := wDefX 2 1 (xSeq (xDrop (xCall (wx_need_pairs cN) [] (waCons (wVar 0) waNil))) (xSeq (xDrop (xCall (wx_need_deed cN) [] (waCons (wVar 1) waNil))) (xSeq (xL (wAsg (wCall w_done_on [] (waCons (wVar 0) (waCons (wTup (waCons (wVar 1) waNil)) waNil))) 2)) (xSeq (xIf (wB (wOp gtT (wLenD (waCons (wVar 2) waNil)) (wC (.int 10000)))) (xRaiseF (cN "TooMany") "limit" (waCons (wC (.int 10000)) waNil)) xN) (xL (wRet (wVar 2)))))))
def wx__need_deeds (cN : Str → Addr) : WFX := wDefX 1 1 (xIf (wOr (wNot (wTru (wCB isiT (waCons (wVar 0) (waCons (wC (.ty "tuple")) waNil))))) (wOr (wB (wOp gtT (wCB lenT (waCons (wVar 0) waNil)) (wC (.int 1500)))) (wNot (wTru (wCB allT (waCons (wL (wLc (wiSeq (wVar 0)) (Tg.name 1) wYes (wCall w_is_deed [] (waCons (wVar 1) waNil)) [1])) waNil)))))) (xRaise (cN "InvalidDeed")) xN)
def wx_behind (cN : Str → Addr) : WFX := wDefX 1 0 (xSeq (xDrop (xCall (wx__need_deeds cN) [] (waCons (wVar 0) waNil))) (xL (wRet (wCall w_done_on [] (waCons wDct0 (waCons (wVar 0) waNil))))))
def wx_unlike_keys (cN : Str → Addr) : WFX := wDefX 2 2 (xSeq (xDrop (xCall (wx_need_pairs cN) [] (waCons (wVar 0) waNil))) (xSeq (xDrop (xCall (wx_need_pairs cN) [] (waCons (wVar 1) waNil))) (xL (wSeq (wAsg (wSrtU (wL (wListK (waCons (wVar 0) waNil))) (wL (wListK (waCons (wVar 1) waNil)))) 2) (wRet (wCB tupleT (waCons (wL (wLc (wiSeq (wVar 2)) (Tg.name 3) (wB (wOp neT (wDGet1 (wVar 0) (wVar 3)) (wDGet1 (wVar 1) (wVar 3)))) (wVar 3) [3])) waNil)))))))
def wx_deed_between (cN : Str → Addr) : WFX := wDefX 2 2 (xSeq (xL (wAsg (wCall w_unlike_keys [] (waCons (wVar 0) (waCons (wVar 1) waNil))) 2)) (xSeq (xIf (wB (wOp gtT (wCB lenT (waCons (wVar 2) waNil)) (wC (.int 6)))) (xRaiseF (cN "TooMany") "limit" (waCons (wC (.int 6)) waNil)) xN) (xL (wSeq (wIf (wNot (wTru (wVar 2))) (wRet (wC .non)) wNext) (wRet (wCB tupleT (waCons (wL (wLc (wiSeq (wVar 2)) (Tg.name 3) wYes (wTup (waCons (wVar 3) (waCons (wDGet1 (wVar 1) (wVar 3)) waNil))) [3])) waNil)))))))
theorem okx_deed_between {f : Addr} {fd : FuncData} (F : FunD K "deed_between" "deed_between" (defArgs s_deed_between) (defBody s_deed_between) (defScope s_deed_between) [] [] f fd) (b_tuple : mg "tuple" = none) (b_len : mg "len" = none) (c_MOST_SET : ∃ t, mg "MOST_SET" = some (.int 6 t)) (XI_TooMany : ExI P w K mg base "TooMany" (He.ga K "TooMany") "limit") (D_unlike_keys : CallD P w K mg base 6 "unlike_keys" w_unlike_keys []) : FnOk P w K mg base (L2.CX P w) 7 f fd ["one", "other"] (spX K (wx_deed_between (He.ga K))) :=
  by
  refine fn_treeX F sc_deed_between rfl rfl fun cdv A outer s H E hr tk => ?_
  refine (gxs_cons (gx_lift (gs_asg 2 (ge_callD D_unlike_keys hr (by rfl) CTs.nil (ga_cons (ge_var 0) (ga_cons (ge_var 1) ga_nil))) sc_deed_between.nd)) ?_)
  · refine (gxs_cons (gx_if (gt_cmp op_gtA sop_gt (ge_cb call_len sc_len (by rfl) b_len (by decide +kernel) (ga_cons (ge_var 2) ga_nil)) (ge_globI (by rfl) c_MOST_SET)) (gxs_one (gx_raiseF rfl tk XI_TooMany hr (by rfl) (ga_cons (ge_globI (by rfl) c_MOST_SET) ga_nil))) gxs_nil) ?_)
    · refine (gxs_lift ?_)
      · refine (gss_cons (gs_if (gt_not (gt_tru (ge_var 2))) (gss_one (gs_ret ge_non)) gss_nil) ?_)
        · refine (gss_one ?_)
          · refine (gs_ret ?_)
            · refine (ge_cty call_tuple_of sc_tuple (by rfl) b_tuple (by decide +kernel) ?_)
              · refine (ga_cons ?_ ga_nil)
                · refine (GL.ge ?_)
                  · refine (gl_lc (own := [("key", 3)]) (g := (Tg.name 3)) (tt := tYes) (by rfl) sc_deed_between.nd ?_ (by first | exact blkOk_by (own := [("key", 3)]) (N := N_deed_between) (sc := defScope s_deed_between) (by decide +kernel) | exact blkOk_by (own := [("key", 3)]) (N := N_deed_between) (by kernel_rfl)) (fun _ _ _ _ _ => ?_) (fun _ _ _ _ _ => ?_) st_yes (fun _ _ _ _ _ => ?_) (by decide) (by intro _; rfl))
                    · exact (gi_seq (ge_var 2))
                    · exact (pg_name (i := 3) sc_deed_between.nd (by rfl) (by first | exact Or.inl rfl | exact Or.inr rfl) (by first | exact .inl rfl | exact .inr rfl))
                    · exact pts_nil
                    · exact (ge_tup (ga_cons (ge_var 3) (ga_cons (ge_dget1 hr (ge_var 1) (ge_var 3)) ga_nil)))
end
end My
namespace My
open PySem PySem.Spec PyProof.Rows L2 Tr
section
variable [Tabl]
variable {P : Program} {w : World} {K : PySem.W.Frag} {mg : Str → Option Value} {base : Heap}
theorem sc_TooMany___init__ : FnScope ["self", "limit"] ["self", "limit"] (defScope s_TooMany___init__) := ⟨rfl, rfl, rfl, by decide +kernel, rfl, by decide +kernel, by decide +kernel⟩
theorem ok_TooMany___init__ {f : Addr} {fd : FuncData} (F : FunD K "__init__" "TooMany.__init__" (defArgs s_TooMany___init__) (defBody s_TooMany___init__) (defScope s_TooMany___init__) [] [] f fd) (b_OverflowError : mg "OverflowError" = none) (T : OexG K (He.ga K "TooMany") bmOverflowError "OverflowError.__new__") (tk : PySem.W.takerIn K (He.ga K "TooMany") "limit" = some none) (vV : PySem.W.findCls K (.type "OverflowError") (.type "type") "__init__" = some (.val (.builtin "OverflowError.__init__"))) : FnOk P w K mg base CX0 1 f fd ["self", "limit"] (spE (He.ga K "TooMany") "limit") :=
  fn_exc F T tk sc_TooMany___init__ fun cdv A outer s H E => pss_cons (ps_expr (pe_binit exbOverflowError (by rfl) b_OverflowError (by rfl) vV (pa_cons (pe_var (i := 0) rfl (.inl rfl)) (pa_cons pe_str pa_nil)))) (pss_one (ps_os1 exbOverflowError (pe_var (i := 0) rfl (.inl rfl)) (pe_var (i := 1) rfl (.inl rfl))))
end
end My


set_option Elab.async false
set_option linter.all false
set_option maxRecDepth 100000
set_option maxHeartbeats 0
namespace My
open PySem PySem.Spec PyProof.Rows L2 Tr LamX
section
variable [Tabl]
variable {P : Program} {w : World} {K : PySem.W.Frag} {mg : Str → Option Value} {base : Heap}
abbrev N__law_between_right : List Str := ["one", "other", "unlike", "told", "error", "name"]
theorem sc__law_between_right : FnScope N__law_between_right ["one", "other"] (defScope s__law_between_right) := ⟨rfl, rfl, rfl, by decide +kernel, rfl, by decide +kernel, by decide +kernel⟩
def w__law_between_right (cN : Str → Addr) (em : Value → Value → Option Bool) : WF := wDef 2 4 (wSeq (wAsg (wCall w__law_ds_unlike [] (waCons (wVar 0) (waCons (wVar 1) waNil))) 2) (wSeq (wIf (wOr (wB (wOp neT (wCall w_unlike_keys [] (waCons (wVar 0) (waCons (wVar 1) waNil))) (wVar 2))) (wB (wOp neT (wCall w_unlike_keys [] (waCons (wVar 1) (waCons (wVar 0) waNil))) (wVar 2)))) (wRet (wC (.bl false))) wNext) (wSeq (wTryS em [(.ref (cN "TooMany"), some (4, "limit"), fun a cls d => (wRet (wAndV (wOp eqT (wXf a cls d (cN "TooMany") 4 "limit") (wC (.int 6))) (wOp gtT (wCB lenT (waCons (wVar 2) waNil)) (wC (.int 6))))))] (xAsg (xCall (wx_deed_between cN) [] (waCons (wVar 0) (waCons (wVar 1) waNil))) 3)) (wSeq (wIf (wB (wOp eqT (wVar 2) (wTup waNil))) (wRet (wIsN false (wVar 3))) wNext) (wRet (wAndV (wOp ltT (wCB lenT (waCons (wVar 2) waNil)) (wC (.int 7))) (wAndV (wOp eqT (wVar 3) (wCB tupleT (waCons (wL (wLc (wiSeq (wVar 2)) (Tg.name 5) wYes (wTup (waCons (wVar 5) (waCons (wDGet2 (wVar 1) (wVar 5) (wC .non)) waNil))) [5])) waNil))) (wOp eqDct (wCall w_done [] (waCons (wVar 0) (waCons (wVar 3) waNil))) (wVar 1)))))))))
theorem ok__law_between_right {f : Addr} {fd : FuncData} (F : FunD K "_law_between_right" "_law_between_right" (defArgs s__law_between_right) (defBody s__law_between_right) (defScope s__law_between_right) [] [] f fd) (D__law_ds_unlike : CallD P w K mg base 1 "_law_ds_unlike" w__law_ds_unlike []) (D_unlike_keys : CallD P w K mg base 6 "unlike_keys" w_unlike_keys []) (DX_deed_between : CallX P w K mg base 7 "deed_between" (wx_deed_between (He.ga K)) []) (mg_TooMany : mg "TooMany" = some (.ref (He.ga K "TooMany"))) (b_len : mg "len" = none) (XF_TooMany : XfD K (He.ga K "TooMany") "limit") (D_done : CallD P w K mg base 8 "done" w_done []) (b_tuple : mg "tuple" = none) : FnOk P w K mg base CX0 9 f fd ["one", "other"] (spT K (w__law_between_right (He.ga K) (PySem.W.exmOne K))) :=
  by
  refine fn_tree F sc__law_between_right rfl rfl fun cdv A outer s H E hr => ?_
  refine (gss_cons (gs_asg 2 (ge_callD D__law_ds_unlike hr (by rfl) CTs.nil (ga_cons (ge_var 0) (ga_cons (ge_var 1) ga_nil))) sc__law_between_right.nd) ?_)
  · refine (gss_cons (gs_if (GW.gt (gw_or (gt_cmp (op_neD hr.units) sop_ne (ge_callD D_unlike_keys hr (by rfl) CTs.nil (ga_cons (ge_var 0) (ga_cons (ge_var 1) ga_nil))) (ge_var 2)) (gw_or1 (gt_cmp (op_neD hr.units) sop_ne (ge_callD D_unlike_keys hr (by rfl) CTs.nil (ga_cons (ge_var 1) (ga_cons (ge_var 0) ga_nil))) (ge_var 2))))) (gss_one (gs_ret ge_bl)) gss_nil) ?_)
    · refine (gss_cons (gs_try sc__law_between_right.nd takes0 (fun W pn xe tk => (gxs_one (gx_asg 3 (gxe_callX tk DX_deed_between hr (by rfl) CTs.nil (ga_cons (ge_var 0) (ga_cons (ge_var 1) ga_nil))) sc__law_between_right.nd))) (HdsS.as ⟨rfl, by decide, .inl mg_TooMany⟩ rfl rfl (fun a oe cls d pn hz hf => (gss_one (gs_ret (ge_and (ge_cmp (op_eqD hr.units) sop_eq (ge_xfS 4 XF_TooMany hz hf rfl (.inl rfl)) ge_int) (ge_one (ge_cmp op_gtA sop_gt (ge_cb call_len sc_len (by rfl) b_len (by decide +kernel) (ga_cons (ge_var 2) ga_nil)) ge_int)))))) HdsS.nil)) ?_)
      · refine (gss_cons (gs_if (gt_cmp (op_eqD hr.units) sop_eq (ge_var 2) (ge_tup ga_nil)) (gss_one (gs_ret (ge_isN (ge_var 3)))) gss_nil) ?_)
        · refine (gss_one ?_)
          · refine (gs_ret ?_)
            · refine (ge_and (ge_cmp op_ltA sop_lt (ge_cb call_len sc_len (by rfl) b_len (by decide +kernel) (ga_cons (ge_var 2) ga_nil)) ge_int) ?_)
              · refine (ge_and ?_ (ge_one (ge_cmp (op_eqDD hr.units70) sop_eqDct (ge_callD D_done hr (by rfl) CTs.nil (ga_cons (ge_var 0) (ga_cons (ge_var 3) ga_nil))) (ge_var 1))))
                · refine (ge_cmp (op_eqD hr.units) sop_eq (ge_var 3) ?_)
                  · refine (ge_cty call_tuple_of sc_tuple (by rfl) b_tuple (by decide +kernel) ?_)
                    · refine (ga_cons ?_ ga_nil)
                      · refine (GL.ge ?_)
                        · refine (gl_lc (own := [("name", 5)]) (g := (Tg.name 5)) (tt := tYes) (by rfl) sc__law_between_right.nd ?_ (by first | exact blkOk_by (own := [("name", 5)]) (N := N__law_between_right) (sc := defScope s__law_between_right) (by decide +kernel) | exact blkOk_by (own := [("name", 5)]) (N := N__law_between_right) (by kernel_rfl)) (fun _ _ _ _ _ => ?_) (fun _ _ _ _ _ => ?_) st_yes (fun _ _ _ _ _ => ?_) (by decide) (by intro _; rfl))
                          · exact (gi_seq (ge_var 2))
                          · exact (pg_name (i := 5) sc__law_between_right.nd (by rfl) (by first | exact Or.inl rfl | exact Or.inr rfl) (by first | exact .inl rfl | exact .inr rfl))
                          · exact pts_nil
                          · exact (ge_tup (ga_cons (ge_var 5) (ga_cons (ge_dget2 hr (ge_var 1) (ge_var 5) ge_non) ga_nil)))

abbrev N__law_right : List Str := ["dice", "deeds", "states", "at", "deed", "told", "here", "low", "high", "other", "turn", "name", "value"]
theorem sc__law_right : FnScope N__law_right ["dice"] (defScope s__law_right) := ⟨rfl, rfl, rfl, by decide +kernel, rfl, by decide +kernel, by decide +kernel⟩
def w__law_right (cN : Str → Addr) (em : Value → Value → Option Bool) : WF := wDef 1 12 (wSeq (wAsg (wCB tupleT (waCons (wL (wLc (wiRng1 (waCons (wCall w__law_roll [] (waCons (wVar 0) (waCons (wC (.int 13)) waNil))) waNil)) (Tg.name 10) wYes (wCall w__law_ds_deed [] (waCons (wVar 0) (waCons (wCall w__law_ds_keys [] waNil) waNil))) [10])) waNil)) 1) (wSeq (wAsg (wCall w__law_ds_states [] (waCons (wVar 1) waNil)) 2) (wSeq (wFor (wiEnum (waCons (wVar 1) waNil)) (Tg.names [3, 4]) (wSeq (wAsg (wCall w_done [] (waCons (wOp ixT (wVar 2) (wVar 3)) (waCons (wVar 4) waNil))) 5) (wIf (wOr (wB (wOp neDct (wVar 5) (wOp ixT (wVar 2) (wOp addT (wVar 3) (wC (.int 1)))))) (wOr (wB (wOp neT (wL (wListK (waCons (wVar 5) waNil))) (wL (wSortK (waCons (wVar 5) waNil))))) (wB (wOp neDct (wCall w_done [] (waCons (wVar 5) (waCons (wVar 4) waNil))) (wVar 5))))) (wRet (wC (.bl false))) wNext))) (wSeq (wIf (wOr (wB (wOp neDct (wCall w_behind [] (waCons (wVar 1) waNil)) (wOp ixT (wVar 2) (wUn negT (wC (.int 1)))))) (wB (wOp neT (wL (wListK (waCons (wCall w_behind [] (waCons (wVar 1) waNil)) waNil))) (wL (wSortK (waCons (wOp ixT (wVar 2) (wUn negT (wC (.int 1)))) waNil)))))) (wRet (wC (.bl false))) wNext) (wSeq (wPar3 6 7 8 (waCons (wOp ixT (wVar 2) (wUn negT (wC (.int 1)))) (waCons (wCall w__law_ds_deed [] (waCons (wVar 0) (waCons (wL (wLst (waCons (wC (.str "a")) (waCons (wC (.str "abcdefgh")) (waCons (wC (.str "b")) waNil))))) waNil))) (waCons (wCall w__law_ds_deed [] (waCons (wVar 0) (waCons (wL (wLst (waCons (wC (.str "key")) (waCons (wC (.str "zz")) (waCons (wC (.str "e")) (waCons (wC (.str "zzzzzzzz")) waNil)))))) waNil))) waNil)))) (wSeq (wIf (wB (wOp neDct (wCall w_done [] (waCons (wCall w_done [] (waCons (wVar 6) (waCons (wVar 7) waNil))) (waCons (wVar 8) waNil))) (wCall w_done [] (waCons (wCall w_done [] (waCons (wVar 6) (waCons (wVar 8) waNil))) (waCons (wVar 7) waNil))))) (wRet (wC (.bl false))) wNext) (wSeq (wAsg (wCB tupleT (waCons (wL (wLc (wiSeq (wVar 7)) (Tg.names [11, 12]) wYes (wTup (waCons (wVar 11) (waCons (wCall w__law_ds_value [] (waCons (wVar 0) waNil)) waNil))) [11, 12])) waNil)) 9) (wSeq (wIf (wB (wOp neDct (wCall w_done [] (waCons (wCall w_done [] (waCons (wVar 6) (waCons (wVar 7) waNil))) (waCons (wVar 9) waNil))) (wCall w_done [] (waCons (wVar 6) (waCons (wVar 9) waNil))))) (wRet (wC (.bl false))) wNext) (wRet (wAndV (wCall (w__law_between_right cN em) [] (waCons (wCall w__law_pick [] (waCons (wVar 0) (waCons (wVar 2) waNil))) (waCons (wCall w__law_pick [] (waCons (wVar 0) (waCons (wVar 2) waNil))) waNil))) (wCall (w__law_between_right cN em) [] (waCons (wVar 6) (waCons (wCall w_done [] (waCons (wVar 6) (waCons (wVar 7) waNil))) waNil)))))))))))))
theorem ok__law_right {f : Addr} {fd : FuncData} (F : FunD K "_law_right" "_law_right" (defArgs s__law_right) (defBody s__law_right) (defScope s__law_right) [] [] f fd) (b_tuple : mg "tuple" = none) (b_range : mg "range" = none) (D__law_roll : CallD P w K mg base 1 "_law_roll" w__law_roll []) (D__law_ds_deed : CallD P w K mg base 4 "_law_ds_deed" w__law_ds_deed []) (D__law_ds_keys : CallD P w K mg base 1 "_law_ds_keys" w__law_ds_keys []) (D__law_ds_states : CallD P w K mg base 2 "_law_ds_states" w__law_ds_states []) (b_enumerate : mg "enumerate" = none) (D_done : CallD P w K mg base 8 "done" w_done []) (b_list : mg "list" = none) (b_sorted : mg "sorted" = none) (D_behind : CallD P w K mg base 8 "behind" w_behind []) (D__law_ds_value : CallD P w K mg base 3 "_law_ds_value" w__law_ds_value []) (D__law_between_right : CallD P w K mg base 9 "_law_between_right" (w__law_between_right (He.ga K) (PySem.W.exmOne K)) []) (D__law_pick : CallD P w K mg base 2 "_law_pick" w__law_pick []) : FnOk P w K mg base CX0 10 f fd ["dice"] (spT K (w__law_right (He.ga K) (PySem.W.exmOne K))) :=
  by
  refine fn_tree F sc__law_right rfl rfl fun cdv A outer s H E hr => ?_
  refine (gss_cons ?_ ?_)
  · refine (gs_asg 1 ?_ sc__law_right.nd)
    · refine (ge_cty call_tuple_of sc_tuple (by rfl) b_tuple (by decide +kernel) ?_)
      · refine (ga_cons ?_ ga_nil)
        · refine (GL.ge ?_)
          · refine (gl_lc (own := [("turn", 10)]) (g := (Tg.name 10)) (tt := tYes) (by rfl) sc__law_right.nd ?_ (by first | exact blkOk_by (own := [("turn", 10)]) (N := N__law_right) (sc := defScope s__law_right) (by decide +kernel) | exact blkOk_by (own := [("turn", 10)]) (N := N__law_right) (by kernel_rfl)) (fun _ _ _ _ _ => ?_) (fun _ _ _ _ _ => ?_) st_yes (fun _ _ _ _ _ => ?_) (by decide) (by intro _; rfl))
            · exact (gi_rng1 (by rfl) b_range (ga_cons (ge_callD D__law_roll hr (by rfl) CTs.nil (ga_cons (ge_var 0) (ga_cons ge_int ga_nil))) ga_nil))
            · exact (pg_name (i := 10) sc__law_right.nd (by rfl) (by first | exact Or.inl rfl | exact Or.inr rfl) (by first | exact .inl rfl | exact .inr rfl))
            · exact pts_nil
            · exact (ge_callD D__law_ds_deed hr (by rfl) CTs.nil (ga_cons (ge_var 0) (ga_cons (ge_callD0 D__law_ds_keys hr (by rfl) CTs.nil) ga_nil)))
  · refine (gss_cons (gs_asg 2 (ge_callD D__law_ds_states hr (by rfl) CTs.nil (ga_cons (ge_var 1) ga_nil)) sc__law_right.nd) ?_)
    · refine (gss_cons (gs_for (g := (Tg.names [3, 4])) PassesOwn.never (by rfl) (gi_enum (by rfl) b_enumerate (ga_cons (ge_var 1) ga_nil)) (pg_tup (by rfl) (pgs_cons (pg_name (i := 3) sc__law_right.nd (by rfl) (by first | exact Or.inl rfl | exact Or.inr rfl) (by first | exact .inl rfl | exact .inr rfl)) (pgs_cons (pg_name (i := 4) sc__law_right.nd (by rfl) (by first | exact Or.inl rfl | exact Or.inr rfl) (by first | exact .inl rfl | exact .inr rfl)) pgs_nil))) (gss_cons (gs_asg 5 (ge_callD D_done hr (by rfl) CTs.nil (ga_cons (ge_ix (ge_var 2) (ge_var 3)) (ga_cons (ge_var 4) ga_nil))) sc__law_right.nd) (gss_one (gs_if (GW.gt (gw_or (gt_cmp (op_neDD hr.units70) sop_neDct (ge_var 5) (ge_ix (ge_var 2) (ge_op op_addA sop_add (ge_var 3) ge_int))) (gw_or (gt_cmp (op_neD hr.units) sop_ne (GL.ge (gl_listK (by rfl) (by rfl) b_list (by decide +kernel) (ga_cons (ge_var 5) ga_nil))) (GL.ge (gl_sortK (by rfl) hr (by rfl) b_sorted (by decide +kernel) (ga_cons (ge_var 5) ga_nil)))) (gw_or1 (gt_cmp (op_neDD hr.units70) sop_neDct (ge_callD D_done hr (by rfl) CTs.nil (ga_cons (ge_var 5) (ga_cons (ge_var 4) ga_nil))) (ge_var 5)))))) (gss_one (gs_ret ge_bl)) gss_nil)))) ?_)
      · refine (gss_cons (gs_if (GW.gt (gw_or (gt_cmp (op_neDD hr.units70) sop_neDct (ge_callD D_behind hr (by rfl) CTs.nil (ga_cons (ge_var 1) ga_nil)) (ge_ix (ge_var 2) (ge_neg ge_int))) (gw_or1 (gt_cmp (op_neD hr.units) sop_ne (GL.ge (gl_listK (by rfl) (by rfl) b_list (by decide +kernel) (ga_cons (ge_callD D_behind hr (by rfl) CTs.nil (ga_cons (ge_var 1) ga_nil)) ga_nil))) (GL.ge (gl_sortK (by rfl) hr (by rfl) b_sorted (by decide +kernel) (ga_cons (ge_ix (ge_var 2) (ge_neg ge_int)) ga_nil))))))) (gss_one (gs_ret ge_bl)) gss_nil) ?_)
        · refine (gss_cons (gs_par3 6 7 8 (by rfl) sc__law_right.nd (by rfl) (by rfl) (by rfl) (by decide) (by decide) (by decide) (by rfl) (by rfl) (by rfl) (ga_cons (ge_ix (ge_var 2) (ge_neg ge_int)) (ga_cons (ge_callD D__law_ds_deed hr (by rfl) CTs.nil (ga_cons (ge_var 0) (ga_cons (GL.ge (gl_lst (ga_cons ge_str (ga_cons ge_str (ga_cons ge_str ga_nil))))) ga_nil))) (ga_cons (ge_callD D__law_ds_deed hr (by rfl) CTs.nil (ga_cons (ge_var 0) (ga_cons (GL.ge (gl_lst (ga_cons ge_str (ga_cons ge_str (ga_cons ge_str (ga_cons ge_str ga_nil)))))) ga_nil))) ga_nil))) (by rfl)) ?_)
          · refine (gss_cons (gs_if (gt_cmp (op_neDD hr.units70) sop_neDct (ge_callD D_done hr (by rfl) CTs.nil (ga_cons (ge_callD D_done hr (by rfl) CTs.nil (ga_cons (ge_var 6) (ga_cons (ge_var 7) ga_nil))) (ga_cons (ge_var 8) ga_nil))) (ge_callD D_done hr (by rfl) CTs.nil (ga_cons (ge_callD D_done hr (by rfl) CTs.nil (ga_cons (ge_var 6) (ga_cons (ge_var 8) ga_nil))) (ga_cons (ge_var 7) ga_nil)))) (gss_one (gs_ret ge_bl)) gss_nil) ?_)
            · refine (gss_cons ?_ (gss_cons (gs_if (gt_cmp (op_neDD hr.units70) sop_neDct (ge_callD D_done hr (by rfl) CTs.nil (ga_cons (ge_callD D_done hr (by rfl) CTs.nil (ga_cons (ge_var 6) (ga_cons (ge_var 7) ga_nil))) (ga_cons (ge_var 9) ga_nil))) (ge_callD D_done hr (by rfl) CTs.nil (ga_cons (ge_var 6) (ga_cons (ge_var 9) ga_nil)))) (gss_one (gs_ret ge_bl)) gss_nil) (gss_one (gs_ret (ge_and (ge_callD D__law_between_right hr (by rfl) CTs.nil (ga_cons (ge_callD D__law_pick hr (by rfl) CTs.nil (ga_cons (ge_var 0) (ga_cons (ge_var 2) ga_nil))) (ga_cons (ge_callD D__law_pick hr (by rfl) CTs.nil (ga_cons (ge_var 0) (ga_cons (ge_var 2) ga_nil))) ga_nil))) (ge_one (ge_callD D__law_between_right hr (by rfl) CTs.nil (ga_cons (ge_var 6) (ga_cons (ge_callD D_done hr (by rfl) CTs.nil (ga_cons (ge_var 6) (ga_cons (ge_var 7) ga_nil))) ga_nil)))))))))
              · refine (gs_asg 9 ?_ sc__law_right.nd)
                · refine (ge_cty call_tuple_of sc_tuple (by rfl) b_tuple (by decide +kernel) ?_)
                  · refine (ga_cons ?_ ga_nil)
                    · refine (GL.ge ?_)
                      · refine (gl_lc (own := [("name", 11), ("value", 12)]) (g := (Tg.names [11, 12])) (tt := tYes) (by rfl) sc__law_right.nd ?_ (by first | exact blkOk_by (own := [("name", 11), ("value", 12)]) (N := N__law_right) (sc := defScope s__law_right) (by decide +kernel) | exact blkOk_by (own := [("name", 11), ("value", 12)]) (N := N__law_right) (by kernel_rfl)) (fun _ _ _ _ _ => ?_) (fun _ _ _ _ _ => ?_) st_yes (fun _ _ _ _ _ => ?_) (by decide) (by intro _; rfl))
                        · exact (gi_seq (ge_var 7))
                        · exact (pg_tup (by rfl) (pgs_cons (pg_name (i := 11) sc__law_right.nd (by rfl) (by first | exact Or.inl rfl | exact Or.inr rfl) (by first | exact .inl rfl | exact .inr rfl)) (pgs_cons (pg_name (i := 12) sc__law_right.nd (by rfl) (by first | exact Or.inl rfl | exact Or.inr rfl) (by first | exact .inl rfl | exact .inr rfl)) pgs_nil)))
                        · exact pts_nil
                        · exact (ge_tup (ga_cons (ge_var 11) (ga_cons (ge_callD D__law_ds_value hr (by rfl) CTs.nil (ga_cons (ge_var 0) ga_nil)) ga_nil)))

abbrev N_law : List Str := ["script", "spot", "dice", "told", "many", "name"]
theorem sc_law : FnScope N_law ["script"] (defScope s_law) := ⟨rfl, rfl, rfl, by decide +kernel, rfl, by decide +kernel, by decide +kernel⟩
def w_law (cN : Str → Addr) (em : Value → Value → Option Bool) : WF := wDef 1 5 (wSeq (wFor (wiRng1 (waCons (wCB max2T (waCons (wC (.int 1)) (waCons (wCB min2T (waCons (wC (.int 4)) (waCons (wCB lenT (waCons (wVar 0) waNil)) waNil))) waNil))) waNil)) (Tg.name 1) (wSeq (wDice preDice (waCons (wVar 0) (waCons (wVar 1) waNil)) 2) (wIf (wOr (wNot (wTru (wCall (w__law_right cN em) [] (waCons (wVar 2) waNil)))) (wNot (wTru (wCall (w__law_right cN em) [] (waCons (wVar 2) waNil))))) (wRet (wC (.bl false))) wNext))) (wSeq (wAsg (wL (wLst (waCons (wCall w_done [] (waCons (wD (wDCon [(.inr "a")] [(.int 1)])) (waCons (wTup (waCons (wTup (waCons (wC (.str "a")) (waCons (wC .non) waNil))) (waCons (wTup (waCons (wC (.str "b")) (waCons (wC (.int 0)) waNil))) waNil))) waNil))) (waCons (wCall w_behind [] (waCons (wTup waNil) waNil)) (waCons (wCall w_unlike_keys [] (waCons (wD (wDCon [(.inr "a"), (.inr "b")] [(.int 1), (.int 2)])) (waCons (wD (wDCon [(.inr "b")] [(.int 3)])) waNil))) waNil))))) 3) (wSeq (wIf (wOr (wB (wOp neLD (wVar 3) (wL (wLst (waCons (wD (wDCon [(.inr "b")] [(.int 0)])) (waCons wDct0 (waCons (wTup (waCons (wC (.str "a")) (waCons (wC (.str "b")) waNil))) waNil))))))) (wB (wOp neT (wCall w_deed_between [] (waCons (wD (wDCon [(.inr "a"), (.inr "b")] [(.int 1), (.int 2)])) (waCons (wD (wDCon [(.inr "b")] [(.int 3)])) waNil))) (wTup (waCons (wTup (waCons (wC (.str "a")) (waCons (wC .non) waNil))) (waCons (wTup (waCons (wC (.str "b")) (waCons (wC (.int 3)) waNil))) waNil)))))) (wRet (wC (.bl false))) wNext) (wSeq (wAsg (wDictP (waCons (wL (wLc (wiSeq (wSl (wCall w__law_ds_keys [] waNil) woNone (woSome (wC (.int 7))))) (Tg.name 5) wYes (wTup (waCons (wVar 5) (waCons (wC (.int 1)) waNil))) [5])) waNil)) 4) (wRet (wAndV (wCall (w__law_between_right cN em) [] (waCons wDct0 (waCons (wVar 4) waNil))) (wAndV (wCall (w__law_between_right cN em) [] (waCons (wVar 4) (waCons (wD (wDictM (waCons (wSl (wL (wItemsL (wVar 4))) (woSome (wC (.int 1))) woNone) waNil))) waNil))) (wIsN false (wCall w_deed_between [] (waCons wDct0 (waCons wDct0 waNil)))))))))))
theorem ok_law {f : Addr} {fd : FuncData} (F : FunD K "law" "law" (defArgs s_law) (defBody s_law) (defScope s_law) [] [] f fd) (b_range : mg "range" = none) (b_max : mg "max" = none) (b_min : mg "min" = none) (b_len : mg "len" = none) (D__law_dice : DiceD P w K mg base 1 "_law_dice" preDice) (D__law_right : CallD P w K mg base 10 "_law_right" (w__law_right (He.ga K) (PySem.W.exmOne K)) []) (D_unlike_keys : CallD P w K mg base 6 "unlike_keys" w_unlike_keys []) (D_behind : CallD P w K mg base 8 "behind" w_behind []) (D_done : CallD P w K mg base 8 "done" w_done []) (D_deed_between : CallD P w K mg base 7 "deed_between" w_deed_between []) (b_dict : mg "dict" = none) (D__law_ds_keys : CallD P w K mg base 1 "_law_ds_keys" w__law_ds_keys []) (D__law_between_right : CallD P w K mg base 9 "_law_between_right" (w__law_between_right (He.ga K) (PySem.W.exmOne K)) []) (b_list : mg "list" = none) : FnOk P w K mg base CX0 11 f fd ["script"] (spT K (w_law (He.ga K) (PySem.W.exmOne K))) :=
  by
  refine fn_tree F sc_law rfl rfl fun cdv A outer s H E hr => ?_
  refine (gss_cons (gs_for (g := (Tg.name 1)) PassesOwn.never (by rfl) (gi_rng1 (by rfl) b_range (ga_cons (ge_cb (call_max2 (by rfl)) sc_max2 (by rfl) b_max (by decide +kernel) (ga_cons ge_int (ga_cons (ge_cb (call_min2 (by rfl)) sc_min2 (by rfl) b_min (by decide +kernel) (ga_cons ge_int (ga_cons (ge_cb call_len sc_len (by rfl) b_len (by decide +kernel) (ga_cons (ge_var 0) ga_nil)) ga_nil))) ga_nil))) ga_nil)) (pg_name (i := 1) sc_law.nd (by rfl) (by first | exact Or.inl rfl | exact Or.inr rfl) (by first | exact .inl rfl | exact .inr rfl)) (gss_cons (gs_dice 2 D__law_dice hr (by rfl) (ga_cons (ge_var 0) (ga_cons (ge_var 1) ga_nil)) sc_law.nd) (gss_one (gs_if (GW.gt (gw_or (gt_not (gt_tru (ge_callD D__law_right hr (by rfl) CTs.nil (ga_cons (ge_var 2) ga_nil)))) (gw_or1 (gt_not (gt_tru (ge_callD D__law_right hr (by rfl) CTs.nil (ga_cons (ge_var 2) ga_nil))))))) (gss_one (gs_ret ge_bl)) gss_nil)))) ?_)
  · refine (gss_cons (gs_asg 3 (GL.ge (gl_lst (ga_cons (ge_callD D_done hr (by rfl) CTs.nil (ga_cons (GD.ge (gd_con (CDisp.cons pe_str pe_int (fun _ _ _ => .int _) CDisp.nil) (by decide))) (ga_cons (ge_tup (ga_cons (ge_tup (ga_cons ge_str (ga_cons ge_non ga_nil))) (ga_cons (ge_tup (ga_cons ge_str (ga_cons ge_int ga_nil))) ga_nil))) ga_nil))) (ga_cons (ge_callD D_behind hr (by rfl) CTs.nil (ga_cons (ge_tup ga_nil) ga_nil)) (ga_cons (ge_callD D_unlike_keys hr (by rfl) CTs.nil (ga_cons (GD.ge (gd_con (CDisp.cons pe_str pe_int (fun _ _ _ => .int _) (CDisp.cons pe_str pe_int (fun _ _ _ => .int _) CDisp.nil)) (by decide))) (ga_cons (GD.ge (gd_con (CDisp.cons pe_str pe_int (fun _ _ _ => .int _) CDisp.nil) (by decide))) ga_nil))) ga_nil))))) sc_law.nd) ?_)
    · refine (gss_cons (gs_if (GW.gt (gw_or (gt_cmp (op_neLD hr.units70) sop_neLD (ge_var 3) (GL.ge (gl_lst (ga_cons (GD.ge (gd_con (CDisp.cons pe_str pe_int (fun _ _ _ => .int _) CDisp.nil) (by decide))) (ga_cons ge_dct0 (ga_cons (ge_tup (ga_cons ge_str (ga_cons ge_str ga_nil))) ga_nil)))))) (gw_or1 (gt_cmp (op_neD hr.units) sop_ne (ge_callD D_deed_between hr (by rfl) CTs.nil (ga_cons (GD.ge (gd_con (CDisp.cons pe_str pe_int (fun _ _ _ => .int _) (CDisp.cons pe_str pe_int (fun _ _ _ => .int _) CDisp.nil)) (by decide))) (ga_cons (GD.ge (gd_con (CDisp.cons pe_str pe_int (fun _ _ _ => .int _) CDisp.nil) (by decide))) ga_nil))) (ge_tup (ga_cons (ge_tup (ga_cons ge_str (ga_cons ge_non ga_nil))) (ga_cons (ge_tup (ga_cons ge_str (ga_cons ge_int ga_nil))) ga_nil))))))) (gss_one (gs_ret ge_bl)) gss_nil) ?_)
      · refine (gss_cons ?_ (gss_one (gs_ret (ge_and (ge_callD D__law_between_right hr (by rfl) CTs.nil (ga_cons ge_dct0 (ga_cons (ge_var 4) ga_nil))) (ge_and (ge_callD D__law_between_right hr (by rfl) CTs.nil (ga_cons (ge_var 4) (ga_cons (GD.ge (gd_dictM (by rfl) (by rfl) b_dict (by decide +kernel) (ga_cons (ge_sl (GL.ge (gl_itemsL (by rfl) (ge_var 4) (by rfl) b_list (by decide +kernel))) (go_some ge_int) go_none) ga_nil))) ga_nil))) (ge_one (ge_isN (ge_callD D_deed_between hr (by rfl) CTs.nil (ga_cons ge_dct0 (ga_cons ge_dct0 ga_nil))))))))))
        · refine (gs_asg 4 ?_ sc_law.nd)
          · refine (ge_dictP (by rfl) (by rfl) b_dict (by decide +kernel) ?_)
            · refine (ga_cons ?_ ga_nil)
              · refine (GL.ge ?_)
                · refine (gl_lc (own := [("name", 5)]) (g := (Tg.name 5)) (tt := tYes) (by rfl) sc_law.nd ?_ (by first | exact blkOk_by (own := [("name", 5)]) (N := N_law) (sc := defScope s_law) (by decide +kernel) | exact blkOk_by (own := [("name", 5)]) (N := N_law) (by kernel_rfl)) (fun _ _ _ _ _ => ?_) (fun _ _ _ _ _ => ?_) st_yes (fun _ _ _ _ _ => ?_) (by decide) (by intro _; rfl))
                  · exact (gi_seq (ge_sl (ge_callD0 D__law_ds_keys hr (by rfl) CTs.nil) go_none (go_some ge_int)))
                  · exact (pg_name (i := 5) sc_law.nd (by rfl) (by first | exact Or.inl rfl | exact Or.inr rfl) (by first | exact .inl rfl | exact .inr rfl))
                  · exact pts_nil
                  · exact (ge_tup (ga_cons (ge_var 5) (ga_cons ge_int ga_nil)))
end
end My


set_option linter.all false
set_option maxRecDepth 100000
set_option maxHeartbeats 0
namespace My
open PySem PySem.Spec PyProof.Rows L2 Tr
variable [Tabl]
theorem st_is_key {P : Sl → Prop} {x0 : Sl} (h : (wSeq (wIf (wOr (wNot (wTru (wCB isiT (waCons (wVar 0) (waCons (wC (.ty "str")) waNil))))) (wNot (wB (wChain leT leT (wC (.int 1)) (wCB lenT (waCons (wVar 0) waNil)) (wC (.int 8)))))) (wRet (wC (.bl false))) wNext) (wRet (wCB allT (waCons (wL (wLc (wiStr (wVar 0)) (Tg.name 1) wYes (wOp (inSg false) (wVar 1) (wC (.str "abcdefghijklmnopqrstuvwxyz"))) [1])) waNil)))) ⟨fun _ => P (.val .non), retK P, fun _ => False, fun _ => False⟩ [x0, .any]) : w_is_key [x0] P := ⟨rfl, h⟩
theorem st_is_value {P : Sl → Prop} {x0 : Sl} (h : (wRet (wCall w_is_within [] (waCons (wVar 0) (waCons (wUn negT (wC (.int 999999999999))) (waCons (wC (.int 999999999999)) waNil))))) ⟨fun _ => P (.val .non), retK P, fun _ => False, fun _ => False⟩ [x0]) : w_is_value [x0] P := ⟨rfl, h⟩
theorem st_is_pairs {P : Sl → Prop} {x0 : Sl} (h : (wSeq (wIf (wOr (wNot (wTru (wCB isiT (waCons (wVar 0) (waCons (wC (.ty "dict")) waNil))))) (wB (wOp gtT (wLenD (waCons (wVar 0) waNil)) (wC (.int 10000))))) (wRet (wC (.bl false))) wNext) (wRet (wCB allT (waCons (wL (wLcI (wpVar 0) mkI (Tg.names [1, 2]) wYes (wAndV (wCall w_is_key [] (waCons (wVar 1) waNil)) (wCall w_is_value [] (waCons (wVar 2) waNil))) [1, 2])) waNil)))) ⟨fun _ => P (.val .non), retK P, fun _ => False, fun _ => False⟩ [x0, .any, .any]) : w_is_pairs [x0] P := ⟨rfl, h⟩
theorem st_need_pairs {P : Sl → Prop} {x0 : Sl} (h : (wIf (wNot (wTru (wCall w_is_pairs [] (waCons (wVar 0) waNil)))) wNever wNext) ⟨fun _ => P (.val .non), retK P, fun _ => False, fun _ => False⟩ [x0]) : w_need_pairs [x0] P := ⟨rfl, h⟩
theorem st_are_ascending {P : Sl → Prop} {x0 : Sl} (h : (wRet (wCB allT (waCons (wL (wLc (wiZipA (waCons (wVar 0) (waCons (wSl (wVar 0) (woSome (wC (.int 1))) woNone) waNil))) (Tg.names [1, 2]) wYes (wOp ltT (wVar 1) (wVar 2)) [1, 2])) waNil))) ⟨fun _ => P (.val .non), retK P, fun _ => False, fun _ => False⟩ [x0, .any, .any]) : w_are_ascending [x0] P := ⟨rfl, h⟩
theorem st_is_value_or_none {P : Sl → Prop} {x0 : Sl} (h : (wRet (wOrV (wIsN false (wVar 0)) (wCall w_is_value [] (waCons (wVar 0) waNil)))) ⟨fun _ => P (.val .non), retK P, fun _ => False, fun _ => False⟩ [x0]) : w_is_value_or_none [x0] P := ⟨rfl, h⟩
theorem st__is_setting {P : Sl → Prop} {x0 : Sl} (h : (wSeq (wIf (wOr (wNot (wTru (wCB isiT (waCons (wVar 0) (waCons (wC (.ty "tuple")) waNil))))) (wB (wOp neT (wCB lenT (waCons (wVar 0) waNil)) (wC (.int 2))))) (wRet (wC (.bl false))) wNext) (wRet (wAndV (wCall w_is_key [] (waCons (wOp ixT (wVar 0) (wC (.int 0))) waNil)) (wCall w_is_value_or_none [] (waCons (wOp ixT (wVar 0) (wC (.int 1))) waNil))))) ⟨fun _ => P (.val .non), retK P, fun _ => False, fun _ => False⟩ [x0]) : w__is_setting [x0] P := ⟨rfl, h⟩
theorem st_is_deed {P : Sl → Prop} {x0 : Sl} (h : (wSeq (wIf (wOr (wNot (wTru (wCB isiT (waCons (wVar 0) (waCons (wC (.ty "tuple")) waNil))))) (wNot (wB (wChain leT leT (wC (.int 1)) (wCB lenT (waCons (wVar 0) waNil)) (wC (.int 6)))))) (wRet (wC (.bl false))) wNext) (wSeq (wIf (wNot (wTru (wCB allT (waCons (wL (wLc (wiSeq (wVar 0)) (Tg.name 3) wYes (wCall w__is_setting [] (waCons (wVar 3) waNil)) [3])) waNil)))) (wRet (wC (.bl false))) wNext) (wRet (wCall w_are_ascending [] (waCons (wL (wLc (wiSeq (wVar 0)) (Tg.names [1, 2]) wYes (wVar 1) [1, 2])) waNil))))) ⟨fun _ => P (.val .non), retK P, fun _ => False, fun _ => False⟩ [x0, .any, .any, .any]) : w_is_deed [x0] P := ⟨rfl, h⟩
theorem st_need_deed {P : Sl → Prop} {x0 : Sl} (h : (wIf (wNot (wTru (wCall w_is_deed [] (waCons (wVar 0) waNil)))) wNever wNext) ⟨fun _ => P (.val .non), retK P, fun _ => False, fun _ => False⟩ [x0]) : w_need_deed [x0] P := ⟨rfl, h⟩
theorem st_ascending {P : Sl → Prop} {x0 : Sl} (h : (wRet (wD (wDc (wiSeq (wL (wSortK (waCons (wVar 0) waNil)))) (Tg.name 1) wYes (wVar 1) (wDGet (wVar 0) (wVar 1)) [1]))) ⟨fun _ => P (.val .non), retK P, fun _ => False, fun _ => False⟩ [x0, .any]) : w_ascending [x0] P := ⟨rfl, h⟩
theorem st_done_on {P : Sl → Prop} {x0 x1 : Sl} (h : (wSeq (wOwnD (wDCopy (waCons (wVar 0) waNil)) 2) (wSeq (wFor (wiSeq (wVar 1)) (Tg.name 3) (wFor (wiSeq (wVar 3)) (Tg.names [4, 5]) (wIf (wB (wIsN false (wVar 5))) (wDPop 2 (wVar 4) (wC .non)) (wDPut 2 (wVar 4) (wVar 5))))) (wFrzD 2 (wRet (wCall w_ascending [] (waCons (wVar 2) waNil)))))) ⟨fun _ => P (.val .non), retK P, fun _ => False, fun _ => False⟩ [x0, x1, .any, .any, .any, .any]) : w_done_on [x0, x1] P := ⟨rfl, h⟩
theorem st_done {P : Sl → Prop} {x0 x1 : Sl} (h : (wSeq (wDrop (wCall w_need_pairs [] (waCons (wVar 0) waNil))) (wSeq (wDrop (wCall w_need_deed [] (waCons (wVar 1) waNil))) (wSeq (wAsg (wCall w_done_on [] (waCons (wVar 0) (waCons (wTup (waCons (wVar 1) waNil)) waNil))) 2) (wSeq (wIf (wB (wOp gtT (wLenD (waCons (wVar 2) waNil)) (wC (.int 10000)))) wNever wNext) (wRet (wVar 2)))))) ⟨fun _ => P (.val .non), retK P, fun _ => False, fun _ => False⟩ [x0, x1, .any]) : w_done [x0, x1] P := ⟨rfl, h⟩
theorem st__need_deeds {P : Sl → Prop} {x0 : Sl} (h : (wIf (wOr (wNot (wTru (wCB isiT (waCons (wVar 0) (waCons (wC (.ty "tuple")) waNil))))) (wOr (wB (wOp gtT (wCB lenT (waCons (wVar 0) waNil)) (wC (.int 1500)))) (wNot (wTru (wCB allT (waCons (wL (wLc (wiSeq (wVar 0)) (Tg.name 1) wYes (wCall w_is_deed [] (waCons (wVar 1) waNil)) [1])) waNil)))))) wNever wNext) ⟨fun _ => P (.val .non), retK P, fun _ => False, fun _ => False⟩ [x0, .any]) : w__need_deeds [x0] P := ⟨rfl, h⟩
theorem st_behind {P : Sl → Prop} {x0 : Sl} (h : (wSeq (wDrop (wCall w__need_deeds [] (waCons (wVar 0) waNil))) (wRet (wCall w_done_on [] (waCons wDct0 (waCons (wVar 0) waNil))))) ⟨fun _ => P (.val .non), retK P, fun _ => False, fun _ => False⟩ [x0]) : w_behind [x0] P := ⟨rfl, h⟩
theorem st_unlike_keys {P : Sl → Prop} {x0 x1 : Sl} (h : (wSeq (wDrop (wCall w_need_pairs [] (waCons (wVar 0) waNil))) (wSeq (wDrop (wCall w_need_pairs [] (waCons (wVar 1) waNil))) (wSeq (wAsg (wSrtU (wL (wListK (waCons (wVar 0) waNil))) (wL (wListK (waCons (wVar 1) waNil)))) 2) (wRet (wCB tupleT (waCons (wL (wLc (wiSeq (wVar 2)) (Tg.name 3) (wB (wOp neT (wDGet1 (wVar 0) (wVar 3)) (wDGet1 (wVar 1) (wVar 3)))) (wVar 3) [3])) waNil)))))) ⟨fun _ => P (.val .non), retK P, fun _ => False, fun _ => False⟩ [x0, x1, .any, .any]) : w_unlike_keys [x0, x1] P := ⟨rfl, h⟩
theorem st__law_ds_unlike {P : Sl → Prop} {x0 x1 : Sl} (h : (wRet (wCB tupleT (waCons (wL (wLc (wiSeq (wSrtS (wOp addT (wL (wListK (waCons (wVar 0) waNil))) (wL (wListK (waCons (wVar 1) waNil)))))) (Tg.name 2) (wB (wOp neT (wDGet2 (wVar 0) (wVar 2) (wC .non)) (wDGet2 (wVar 1) (wVar 2) (wC .non)))) (wVar 2) [2])) waNil))) ⟨fun _ => P (.val .non), retK P, fun _ => False, fun _ => False⟩ [x0, x1, .any]) : w__law_ds_unlike [x0, x1] P := ⟨rfl, h⟩
theorem st_deed_between {P : Sl → Prop} {x0 x1 : Sl} (h : (wSeq (wAsg (wCall w_unlike_keys [] (waCons (wVar 0) (waCons (wVar 1) waNil))) 2) (wSeq (wIf (wB (wOp gtT (wCB lenT (waCons (wVar 2) waNil)) (wC (.int 6)))) wNever wNext) (wSeq (wIf (wNot (wTru (wVar 2))) (wRet (wC .non)) wNext) (wRet (wCB tupleT (waCons (wL (wLc (wiSeq (wVar 2)) (Tg.name 3) wYes (wTup (waCons (wVar 3) (waCons (wDGet1 (wVar 1) (wVar 3)) waNil))) [3])) waNil)))))) ⟨fun _ => P (.val .non), retK P, fun _ => False, fun _ => False⟩ [x0, x1, .any, .any]) : w_deed_between [x0, x1] P := ⟨rfl, h⟩
theorem st__law_ds_done {P : Sl → Prop} {x0 x1 : Sl} (h : (wSeq (wAsg (wD (wDictM (waCons (wOp addT (wL (wItemsL (wVar 0))) (wL (wLstOf (waCons (wVar 1) waNil)))) waNil))) 2) (wRet (wDictP (waCons (wL (wLc (wiSeq (wL (wSortK (waCons (wVar 2) waNil)))) (Tg.name 3) (wB (wIsN true (wDGet (wVar 2) (wVar 3)))) (wTup (waCons (wVar 3) (waCons (wDGet (wVar 2) (wVar 3)) waNil))) [3])) waNil)))) ⟨fun _ => P (.val .non), retK P, fun _ => False, fun _ => False⟩ [x0, x1, .any, .any]) : w__law_ds_done [x0, x1] P := ⟨rfl, h⟩
theorem st__law_ds_states {P : Sl → Prop} {x0 : Sl} (h : (wSeq (wOwn (wLst (waCons wDct0 waNil)) 1) (wSeq (wFor (wiSeq (wVar 0)) (Tg.name 2) (wApp 1 (wCall w__law_ds_done [] (waCons (wOp ixT (wVar 1) (wUn negT (wC (.int 1)))) (waCons (wVar 2) waNil))))) (wFrz 1 (wRet (wVar 1))))) ⟨fun _ => P (.val .non), retK P, fun _ => False, fun _ => False⟩ [x0, .any, .any]) : w__law_ds_states [x0] P := ⟨rfl, h⟩
theorem st__law_shuffled {P : Sl → Prop} {x0 x1 : Sl} (h : (wSeq (wParOO 2 3 (wLstOf (waCons (wVar 1) waNil)) (wLst waNil)) (wSeq (wWhile (wB (wOp neE (wVar 2) (wL (wLst waNil)))) (wAppPop 3 2 (wCall w__law_roll [] (waCons (wVar 0) (waCons (wCB lenT (waCons (wVar 2) waNil)) waNil))))) (wFrz 2 (wFrz 3 (wRet (wVar 3)))))) ⟨fun _ => P (.val .non), retK P, fun _ => False, fun _ => False⟩ [x0, x1, .any, .any]) : w__law_shuffled [x0, x1] P := ⟨rfl, h⟩
theorem st__law_ds_value {P : Sl → Prop} {x0 : Sl} (h : (wRet (wCall w__law_pick [] (waCons (wVar 0) (waCons (wL (wLst (waCons (wC .non) (waCons (wC .non) (waCons (wC (.int 0)) (waCons (wC (.int 1)) (waCons (wUn negT (wC (.int 1))) (waCons (wC (.int 7)) (waCons (wOp subT (wOp powT (wC (.int 10)) (wC (.int 12))) (wC (.int 1))) (waCons (wOp subT (wC (.int 1)) (wOp powT (wC (.int 10)) (wC (.int 12)))) (waCons (wOp subT (wCall w__law_roll [] (waCons (wVar 0) (waCons (wC (.int 9)) waNil))) (wC (.int 4))) waNil))))))))))) waNil)))) ⟨fun _ => P (.val .non), retK P, fun _ => False, fun _ => False⟩ [x0]) : w__law_ds_value [x0] P := ⟨rfl, h⟩
theorem st__law_ds_deed {P : Sl → Prop} {x0 x1 : Sl} (h : (wSeq (wAsg (wL (wSorted (waCons (wSl (wCall w__law_shuffled [] (waCons (wVar 0) (waCons (wVar 1) waNil))) woNone (woSome (wOp addT (wC (.int 1)) (wCall w__law_roll [] (waCons (wVar 0) (waCons (wC (.int 6)) waNil)))))) waNil))) 2) (wRet (wCB tupleT (waCons (wL (wLc (wiSeq (wVar 2)) (Tg.name 3) wYes (wTup (waCons (wVar 3) (waCons (wCall w__law_ds_value [] (waCons (wVar 0) waNil)) waNil))) [3])) waNil)))) ⟨fun _ => P (.val .non), retK P, fun _ => False, fun _ => False⟩ [x0, x1, .any, .any]) : w__law_ds_deed [x0, x1] P := ⟨rfl, h⟩
theorem st__law_ds_keys {P : Sl → Prop} (h : (wRet (wL (wLst (waCons (wC (.str "a")) (waCons (wC (.str "abcdefgh")) (waCons (wC (.str "b")) (waCons (wC (.str "c")) (waCons (wC (.str "d")) (waCons (wC (.str "e")) (waCons (wC (.str "key")) (waCons (wC (.str "zz")) (waCons (wC (.str "zzzzzzzz")) waNil)))))))))))) ⟨fun _ => P (.val .non), retK P, fun _ => False, fun _ => False⟩ []) : w__law_ds_keys [] P := ⟨rfl, h⟩
theorem stx_deed_between {cN : Str → Addr} {r : RX} {P : Sl → Prop} {x0 x1 : Sl} (h : (xSeq (xL (wAsg (wCall w_unlike_keys [] (waCons (wVar 0) (waCons (wVar 1) waNil))) 2)) (xSeq (xIf (wB (wOp gtT (wCB lenT (waCons (wVar 2) waNil)) (wC (.int 6)))) (xRaiseF (cN "TooMany") "limit" (waCons (wC (.int 6)) waNil)) xN) (xL (wSeq (wIf (wNot (wTru (wVar 2))) (wRet (wC .non)) wNext) (wRet (wCB tupleT (waCons (wL (wLc (wiSeq (wVar 2)) (Tg.name 3) wYes (wTup (waCons (wVar 3) (waCons (wDGet1 (wVar 1) (wVar 3)) waNil))) [3])) waNil))))))) (fun c o _ => r c o) ⟨fun _ => P (.val .non), retK P, fun _ => False, fun _ => False⟩ [x0, x1, .any, .any]) : wx_deed_between cN r [x0, x1] P := ⟨rfl, h⟩
theorem st__law_between_right {cN : Str → Addr} {em : Value → Value → Option Bool} {P : Sl → Prop} {x0 x1 : Sl} (h : (wSeq (wAsg (wCall w__law_ds_unlike [] (waCons (wVar 0) (waCons (wVar 1) waNil))) 2) (wSeq (wIf (wOr (wB (wOp neT (wCall w_unlike_keys [] (waCons (wVar 0) (waCons (wVar 1) waNil))) (wVar 2))) (wB (wOp neT (wCall w_unlike_keys [] (waCons (wVar 1) (waCons (wVar 0) waNil))) (wVar 2)))) (wRet (wC (.bl false))) wNext) (wSeq (wTryS em [(.ref (cN "TooMany"), some (4, "limit"), fun a cls d => (wRet (wAndV (wOp eqT (wXf a cls d (cN "TooMany") 4 "limit") (wC (.int 6))) (wOp gtT (wCB lenT (waCons (wVar 2) waNil)) (wC (.int 6))))))] (xAsg (xCall (wx_deed_between cN) [] (waCons (wVar 0) (waCons (wVar 1) waNil))) 3)) (wSeq (wIf (wB (wOp eqT (wVar 2) (wTup waNil))) (wRet (wIsN false (wVar 3))) wNext) (wRet (wAndV (wOp ltT (wCB lenT (waCons (wVar 2) waNil)) (wC (.int 7))) (wAndV (wOp eqT (wVar 3) (wCB tupleT (waCons (wL (wLc (wiSeq (wVar 2)) (Tg.name 5) wYes (wTup (waCons (wVar 5) (waCons (wDGet2 (wVar 1) (wVar 5) (wC .non)) waNil))) [5])) waNil))) (wOp eqDct (wCall w_done [] (waCons (wVar 0) (waCons (wVar 3) waNil))) (wVar 1))))))))) ⟨fun _ => P (.val .non), retK P, fun _ => False, fun _ => False⟩ [x0, x1, .any, .any, .any, .any]) : w__law_between_right cN em [x0, x1] P := ⟨rfl, h⟩
theorem st__law_right {cN : Str → Addr} {em : Value → Value → Option Bool} {P : Sl → Prop} {x0 : Sl} (h : (wSeq (wAsg (wCB tupleT (waCons (wL (wLc (wiRng1 (waCons (wCall w__law_roll [] (waCons (wVar 0) (waCons (wC (.int 13)) waNil))) waNil)) (Tg.name 10) wYes (wCall w__law_ds_deed [] (waCons (wVar 0) (waCons (wCall w__law_ds_keys [] waNil) waNil))) [10])) waNil)) 1) (wSeq (wAsg (wCall w__law_ds_states [] (waCons (wVar 1) waNil)) 2) (wSeq (wFor (wiEnum (waCons (wVar 1) waNil)) (Tg.names [3, 4]) (wSeq (wAsg (wCall w_done [] (waCons (wOp ixT (wVar 2) (wVar 3)) (waCons (wVar 4) waNil))) 5) (wIf (wOr (wB (wOp neDct (wVar 5) (wOp ixT (wVar 2) (wOp addT (wVar 3) (wC (.int 1)))))) (wOr (wB (wOp neT (wL (wListK (waCons (wVar 5) waNil))) (wL (wSortK (waCons (wVar 5) waNil))))) (wB (wOp neDct (wCall w_done [] (waCons (wVar 5) (waCons (wVar 4) waNil))) (wVar 5))))) (wRet (wC (.bl false))) wNext))) (wSeq (wIf (wOr (wB (wOp neDct (wCall w_behind [] (waCons (wVar 1) waNil)) (wOp ixT (wVar 2) (wUn negT (wC (.int 1)))))) (wB (wOp neT (wL (wListK (waCons (wCall w_behind [] (waCons (wVar 1) waNil)) waNil))) (wL (wSortK (waCons (wOp ixT (wVar 2) (wUn negT (wC (.int 1)))) waNil)))))) (wRet (wC (.bl false))) wNext) (wSeq (wPar3 6 7 8 (waCons (wOp ixT (wVar 2) (wUn negT (wC (.int 1)))) (waCons (wCall w__law_ds_deed [] (waCons (wVar 0) (waCons (wL (wLst (waCons (wC (.str "a")) (waCons (wC (.str "abcdefgh")) (waCons (wC (.str "b")) waNil))))) waNil))) (waCons (wCall w__law_ds_deed [] (waCons (wVar 0) (waCons (wL (wLst (waCons (wC (.str "key")) (waCons (wC (.str "zz")) (waCons (wC (.str "e")) (waCons (wC (.str "zzzzzzzz")) waNil)))))) waNil))) waNil)))) (wSeq (wIf (wB (wOp neDct (wCall w_done [] (waCons (wCall w_done [] (waCons (wVar 6) (waCons (wVar 7) waNil))) (waCons (wVar 8) waNil))) (wCall w_done [] (waCons (wCall w_done [] (waCons (wVar 6) (waCons (wVar 8) waNil))) (waCons (wVar 7) waNil))))) (wRet (wC (.bl false))) wNext) (wSeq (wAsg (wCB tupleT (waCons (wL (wLc (wiSeq (wVar 7)) (Tg.names [11, 12]) wYes (wTup (waCons (wVar 11) (waCons (wCall w__law_ds_value [] (waCons (wVar 0) waNil)) waNil))) [11, 12])) waNil)) 9) (wSeq (wIf (wB (wOp neDct (wCall w_done [] (waCons (wCall w_done [] (waCons (wVar 6) (waCons (wVar 7) waNil))) (waCons (wVar 9) waNil))) (wCall w_done [] (waCons (wVar 6) (waCons (wVar 9) waNil))))) (wRet (wC (.bl false))) wNext) (wRet (wAndV (wCall (w__law_between_right cN em) [] (waCons (wCall w__law_pick [] (waCons (wVar 0) (waCons (wVar 2) waNil))) (waCons (wCall w__law_pick [] (waCons (wVar 0) (waCons (wVar 2) waNil))) waNil))) (wCall (w__law_between_right cN em) [] (waCons (wVar 6) (waCons (wCall w_done [] (waCons (wVar 6) (waCons (wVar 7) waNil))) waNil))))))))))))) ⟨fun _ => P (.val .non), retK P, fun _ => False, fun _ => False⟩ [x0, .any, .any, .any, .any, .any, .any, .any, .any, .any, .any, .any, .any]) : w__law_right cN em [x0] P := ⟨rfl, h⟩
theorem st_law {cN : Str → Addr} {em : Value → Value → Option Bool} {P : Sl → Prop} {x0 : Sl} (h : (wSeq (wFor (wiRng1 (waCons (wCB max2T (waCons (wC (.int 1)) (waCons (wCB min2T (waCons (wC (.int 4)) (waCons (wCB lenT (waCons (wVar 0) waNil)) waNil))) waNil))) waNil)) (Tg.name 1) (wSeq (wDice preDice (waCons (wVar 0) (waCons (wVar 1) waNil)) 2) (wIf (wOr (wNot (wTru (wCall (w__law_right cN em) [] (waCons (wVar 2) waNil)))) (wNot (wTru (wCall (w__law_right cN em) [] (waCons (wVar 2) waNil))))) (wRet (wC (.bl false))) wNext))) (wSeq (wAsg (wL (wLst (waCons (wCall w_done [] (waCons (wD (wDCon [(.inr "a")] [(.int 1)])) (waCons (wTup (waCons (wTup (waCons (wC (.str "a")) (waCons (wC .non) waNil))) (waCons (wTup (waCons (wC (.str "b")) (waCons (wC (.int 0)) waNil))) waNil))) waNil))) (waCons (wCall w_behind [] (waCons (wTup waNil) waNil)) (waCons (wCall w_unlike_keys [] (waCons (wD (wDCon [(.inr "a"), (.inr "b")] [(.int 1), (.int 2)])) (waCons (wD (wDCon [(.inr "b")] [(.int 3)])) waNil))) waNil))))) 3) (wSeq (wIf (wOr (wB (wOp neLD (wVar 3) (wL (wLst (waCons (wD (wDCon [(.inr "b")] [(.int 0)])) (waCons wDct0 (waCons (wTup (waCons (wC (.str "a")) (waCons (wC (.str "b")) waNil))) waNil))))))) (wB (wOp neT (wCall w_deed_between [] (waCons (wD (wDCon [(.inr "a"), (.inr "b")] [(.int 1), (.int 2)])) (waCons (wD (wDCon [(.inr "b")] [(.int 3)])) waNil))) (wTup (waCons (wTup (waCons (wC (.str "a")) (waCons (wC .non) waNil))) (waCons (wTup (waCons (wC (.str "b")) (waCons (wC (.int 3)) waNil))) waNil)))))) (wRet (wC (.bl false))) wNext) (wSeq (wAsg (wDictP (waCons (wL (wLc (wiSeq (wSl (wCall w__law_ds_keys [] waNil) woNone (woSome (wC (.int 7))))) (Tg.name 5) wYes (wTup (waCons (wVar 5) (waCons (wC (.int 1)) waNil))) [5])) waNil)) 4) (wRet (wAndV (wCall (w__law_between_right cN em) [] (waCons wDct0 (waCons (wVar 4) waNil))) (wAndV (wCall (w__law_between_right cN em) [] (waCons (wVar 4) (waCons (wD (wDictM (waCons (wSl (wL (wItemsL (wVar 4))) (woSome (wC (.int 1))) woNone) waNil))) waNil))) (wIsN false (wCall w_deed_between [] (waCons wDct0 (waCons wDct0 waNil))))))))))) ⟨fun _ => P (.val .non), retK P, fun _ => False, fun _ => False⟩ [x0, .any, .any, .any, .any, .any]) : w_law cN em [x0] P := ⟨rfl, h⟩
end My


set_option Elab.async false
set_option linter.all false
set_option maxRecDepth 100000
set_option maxHeartbeats 0
local macro_rules | `(tactic| left) => `(tactic| first
  | with_reducible refine Tr.x_seq ?_
  | with_reducible refine Tr.x_next ?_
  | with_reducible refine Tr.x_asg ?_
  | with_reducible refine Tr.x_asgv ?_
  | with_reducible refine Tr.x_asgd ?_
  | with_reducible refine Tr.x_st0 ?_
  | with_reducible refine Tr.x_st1 ?_
  | with_reducible refine Tr.x_st2 ?_
  | with_reducible refine Tr.x_st3 ?_
  | with_reducible refine Tr.x_st4 ?_
  | with_reducible refine Tr.x_st5 ?_
  | with_reducible refine Tr.x_st6 ?_
  | with_reducible refine Tr.x_st7 ?_
  | with_reducible refine Tr.x_st8 ?_
  | with_reducible refine Tr.x_st9 ?_
  | with_reducible refine Tr.x_st10 ?_
  | with_reducible refine Tr.x_st11 ?_
  | with_reducible refine Tr.x_st12 ?_
  | with_reducible refine Tr.x_st13 ?_
  | with_reducible refine Tr.x_st14 ?_
  | with_reducible refine Tr.x_st15 ?_
  | with_reducible refine Tr.x_st16 ?_
  | with_reducible refine Tr.x_st17 ?_
  | with_reducible refine Tr.x_if ?_
  | with_reducible refine Tr.x_ift ?_
  | with_reducible refine Tr.x_iff ?_
  | with_reducible refine Tr.x_ifE1 ?_
  | with_reducible refine Tr.x_ifE0 ?_
  | with_reducible refine Tr.x_ifn ?_
  | ((with_reducible apply Tr.x_ifp); (first | assumption | exact rfl | omega | (simp only [List.length_map, List.length_append, List.length_cons, List.length_nil, List.length_replicate, List.length_drop, List.length_take, List.length_set]; omega) | decide))
  | ((with_reducible apply Tr.x_ifq); (first | assumption | omega | (simp only [List.length_map, List.length_append, List.length_cons, List.length_nil, List.length_replicate, List.length_drop, List.length_take, List.length_set]; omega) | decide))
  | with_reducible refine Tr.x_ret ?_
  | with_reducible refine Tr.x_retK ?_
  | with_reducible refine Tr.x_retO ?_
  | with_reducible refine Tr.x_retN ?_
  | with_reducible refine Tr.x_drop ?_
  | with_reducible refine Tr.x_brk ?_
  | with_reducible refine Tr.x_cnt ?_
  | with_reducible refine Tr.x_own ?_
  | with_reducible refine Tr.x_ownl fun l => ?_
  | with_reducible refine Tr.x_asgT ?_
  | with_reducible refine Tr.x_asgT2 ?_
  | with_reducible refine Tr.x_asgT3 ?_
  | with_reducible refine Tr.x_asgT4 ?_
  | with_reducible refine Tr.x_par ?_
  | with_reducible refine Tr.x_parv ?_
  | with_reducible refine Tr.x_par3 ?_
  | with_reducible refine Tr.x_par3v ?_
  | ((with_reducible apply Tr.x_aug); (exact rfl))
  | with_reducible refine Tr.x_augv ?_
  | ((with_reducible apply Tr.x_app); (exact rfl); (first | omega | (simp only [List.length_map, List.length_append, List.length_cons, List.length_nil, List.length_replicate, List.length_drop, List.length_take, List.length_set]; omega) | decide))
  | with_reducible refine Tr.x_appv ?_
  | ((with_reducible apply Tr.x_ext); (exact rfl))
  | ((with_reducible apply Tr.x_extv); (first | omega | (simp only [List.length_map, List.length_append, List.length_cons, List.length_nil, List.length_replicate, List.length_drop, List.length_take, List.length_set]; omega) | decide))
  | ((with_reducible apply Tr.x_frz); (exact rfl))
  | with_reducible refine Tr.x_for ?_
  | with_reducible refine Tr.x_B ?_
  | with_reducible refine Tr.x_Bv ?_
  | with_reducible refine Tr.x_not ?_
  | with_reducible refine Tr.x_nott ?_
  | with_reducible refine Tr.x_notf ?_
  | with_reducible refine Tr.x_notv ?_
  | with_reducible refine Tr.x_and ?_
  | with_reducible refine Tr.x_or ?_
  | with_reducible refine Tr.x_tru ?_
  | with_reducible refine Tr.x_trub ?_
  | with_reducible refine Tr.x_trui ?_
  | with_reducible refine Tr.x_trun ?_
  | with_reducible refine Tr.x_trutup0 ?_
  | with_reducible refine Tr.x_trutup1 ?_
  | with_reducible refine Tr.x_trutup ?_
  | with_reducible refine Tr.x_trulst0 ?_
  | with_reducible refine Tr.x_trulst1 ?_
  | with_reducible refine Tr.x_trulst ?_
  | with_reducible refine Tr.x_truo ?_
  | with_reducible refine Tr.x_ifE ?_
  | with_reducible refine Tr.x_andV ?_
  | with_reducible refine Tr.x_orV ?_
  | with_reducible refine Tr.x_bo ?_
  | with_reducible refine Tr.x_notV ?_
  | with_reducible refine Tr.x_v0 ?_
  | with_reducible refine Tr.x_d0 ?_
  | with_reducible refine Tr.x_o0 ?_
  | with_reducible refine Tr.x_v1 ?_
  | with_reducible refine Tr.x_d1 ?_
  | with_reducible refine Tr.x_o1 ?_
  | with_reducible refine Tr.x_v2 ?_
  | with_reducible refine Tr.x_d2 ?_
  | with_reducible refine Tr.x_o2 ?_
  | with_reducible refine Tr.x_v3 ?_
  | with_reducible refine Tr.x_d3 ?_
  | with_reducible refine Tr.x_o3 ?_
  | with_reducible refine Tr.x_v4 ?_
  | with_reducible refine Tr.x_d4 ?_
  | with_reducible refine Tr.x_o4 ?_
  | with_reducible refine Tr.x_v5 ?_
  | with_reducible refine Tr.x_d5 ?_
  | with_reducible refine Tr.x_o5 ?_
  | with_reducible refine Tr.x_v6 ?_
  | with_reducible refine Tr.x_d6 ?_
  | with_reducible refine Tr.x_o6 ?_
  | with_reducible refine Tr.x_v7 ?_
  | with_reducible refine Tr.x_d7 ?_
  | with_reducible refine Tr.x_o7 ?_
  | with_reducible refine Tr.x_v8 ?_
  | with_reducible refine Tr.x_d8 ?_
  | with_reducible refine Tr.x_o8 ?_
  | with_reducible refine Tr.x_v9 ?_
  | with_reducible refine Tr.x_d9 ?_
  | with_reducible refine Tr.x_o9 ?_
  | with_reducible refine Tr.x_v10 ?_
  | with_reducible refine Tr.x_d10 ?_
  | with_reducible refine Tr.x_o10 ?_
  | with_reducible refine Tr.x_v11 ?_
  | with_reducible refine Tr.x_d11 ?_
  | with_reducible refine Tr.x_o11 ?_
  | with_reducible refine Tr.x_v12 ?_
  | with_reducible refine Tr.x_d12 ?_
  | with_reducible refine Tr.x_o12 ?_
  | with_reducible refine Tr.x_v13 ?_
  | with_reducible refine Tr.x_d13 ?_
  | with_reducible refine Tr.x_o13 ?_
  | with_reducible refine Tr.x_v14 ?_
  | with_reducible refine Tr.x_d14 ?_
  | with_reducible refine Tr.x_o14 ?_
  | with_reducible refine Tr.x_v15 ?_
  | with_reducible refine Tr.x_d15 ?_
  | with_reducible refine Tr.x_o15 ?_
  | with_reducible refine Tr.x_v16 ?_
  | with_reducible refine Tr.x_d16 ?_
  | with_reducible refine Tr.x_o16 ?_
  | with_reducible refine Tr.x_v17 ?_
  | with_reducible refine Tr.x_d17 ?_
  | with_reducible refine Tr.x_o17 ?_
  | with_reducible refine Tr.x_C ?_
  | with_reducible refine Tr.x_dct ?_
  | with_reducible refine Tr.x_op ?_
  | with_reducible refine Tr.x_opvv ?_
  | with_reducible refine Tr.x_opov ?_
  | with_reducible refine Tr.x_opvo ?_
  | with_reducible refine Tr.x_opoo ?_
  | with_reducible refine Tr.x_eq ?_
  | with_reducible refine Tr.x_ne ?_
  | with_reducible refine Tr.x_lt ?_
  | with_reducible refine Tr.x_le ?_
  | with_reducible refine Tr.x_gt ?_
  | with_reducible refine Tr.x_ge ?_
  | with_reducible refine Tr.x_add ?_
  | with_reducible refine Tr.x_sub ?_
  | ((with_reducible apply Tr.x_keqTt); (decide +kernel))
  | ((with_reducible apply Tr.x_keqTf); (decide +kernel))
  | ((with_reducible apply Tr.x_kneTt); (decide +kernel))
  | ((with_reducible apply Tr.x_kneTf); (decide +kernel))
  | ((with_reducible apply Tr.x_mul); (first | exact Tr.wideL0 (by omega) | exact Tr.wideR0 (by omega)))
  | ((with_reducible apply Tr.x_mod); (first | omega | decide))
  | ((with_reducible apply Tr.x_div); (first | assumption | exact Tr.divOk_s (by omega) (by omega) | decide +kernel))
  | ((with_reducible apply Tr.x_addt); (first | omega | (simp only [List.length_map, List.length_append, List.length_cons, List.length_nil, List.length_replicate, List.length_drop, List.length_take, List.length_set]; omega) | decide))
  | ((with_reducible apply Tr.x_addl); (first | omega | (simp only [List.length_map, List.length_append, List.length_cons, List.length_nil, List.length_replicate, List.length_drop, List.length_take, List.length_set]; omega) | decide))
  | ((with_reducible apply Tr.x_adds); (first | omega | (simp only [List.length_map, List.length_append, List.length_cons, List.length_nil, List.length_replicate, List.length_drop, List.length_take, List.length_set]; omega) | decide))
  | with_reducible refine Tr.x_ixtup0 ?_
  | with_reducible refine Tr.x_ixtup1 ?_
  | with_reducible refine Tr.x_ixtup2 ?_
  | with_reducible refine Tr.x_ixtup3 ?_
  | with_reducible refine Tr.x_ixtup4 ?_
  | with_reducible refine Tr.x_ixtup5 ?_
  | with_reducible refine Tr.x_ixtup6 ?_
  | with_reducible refine Tr.x_ixtup7 ?_
  | with_reducible refine Tr.x_ixlst0 ?_
  | with_reducible refine Tr.x_ixlst1 ?_
  | with_reducible refine Tr.x_ixlst2 ?_
  | with_reducible refine Tr.x_ixlst3 ?_
  | with_reducible refine Tr.x_ixlst4 ?_
  | with_reducible refine Tr.x_ixlst5 ?_
  | with_reducible refine Tr.x_ixlst6 ?_
  | with_reducible refine Tr.x_ixlst7 ?_
  | with_reducible refine Tr.x_un ?_
  | with_reducible refine Tr.x_neg ?_
  | with_reducible refine Tr.x_ch2 ?_
  | with_reducible refine Tr.x_ch ?_
  | with_reducible refine Tr.x_cheq ?_
  | with_reducible refine Tr.x_chlt ?_
  | with_reducible refine Tr.x_chle ?_
  | with_reducible refine Tr.x_chgt ?_
  | with_reducible refine Tr.x_chge ?_
  | with_reducible refine Tr.x_isN ?_
  | with_reducible refine Tr.x_isN0n ?_
  | with_reducible refine Tr.x_isN1n ?_
  | with_reducible refine Tr.x_isN0b ?_
  | with_reducible refine Tr.x_isN1b ?_
  | with_reducible refine Tr.x_isN0i ?_
  | with_reducible refine Tr.x_isN1i ?_
  | with_reducible refine Tr.x_isN0s ?_
  | with_reducible refine Tr.x_isN1s ?_
  | with_reducible refine Tr.x_isN0t ?_
  | with_reducible refine Tr.x_isN1t ?_
  | with_reducible refine Tr.x_isN0l ?_
  | with_reducible refine Tr.x_isN1l ?_
  | with_reducible refine Tr.x_isN0d ?_
  | with_reducible refine Tr.x_isN1d ?_
  | with_reducible refine Tr.x_isN0I ?_
  | with_reducible refine Tr.x_isN1I ?_
  | with_reducible refine Tr.x_nil ?_
  | with_reducible refine Tr.x_cons ?_
  | with_reducible refine Tr.x_tup ?_
  | with_reducible refine Tr.x_Lst ?_
  | with_reducible refine Tr.x_tup0 ?_
  | with_reducible refine Tr.x_lst0 ?_
  | with_reducible refine Tr.x_tup1 ?_
  | with_reducible refine Tr.x_lst1 ?_
  | with_reducible refine Tr.x_tup2 ?_
  | with_reducible refine Tr.x_lst2 ?_
  | with_reducible refine Tr.x_tup3 ?_
  | with_reducible refine Tr.x_lst3 ?_
  | with_reducible refine Tr.x_tup4 ?_
  | with_reducible refine Tr.x_lst4 ?_
  | with_reducible refine Tr.x_tup5 ?_
  | with_reducible refine Tr.x_lst5 ?_
  | with_reducible refine Tr.x_tup6 ?_
  | with_reducible refine Tr.x_lst6 ?_
  | with_reducible refine Tr.x_tup7 ?_
  | with_reducible refine Tr.x_lst7 ?_
  | with_reducible refine Tr.x_tup8 ?_
  | with_reducible refine Tr.x_lst8 ?_
  | with_reducible refine Tr.x_tup9 ?_
  | with_reducible refine Tr.x_lst9 ?_
  | with_reducible refine Tr.x_tup10 ?_
  | with_reducible refine Tr.x_lst10 ?_
  | with_reducible refine Tr.x_tup11 ?_
  | with_reducible refine Tr.x_lst11 ?_
  | with_reducible refine Tr.x_tup12 ?_
  | with_reducible refine Tr.x_lst12 ?_
  | with_reducible refine Tr.x_tup13 ?_
  | with_reducible refine Tr.x_lst13 ?_
  | with_reducible refine Tr.x_L ?_
  | with_reducible refine Tr.x_lof ?_
  | with_reducible refine Tr.x_loflst ?_
  | with_reducible refine Tr.x_loftup ?_
  | with_reducible refine Tr.x_lofscr ?_
  | with_reducible refine Tr.x_lofo ?_
  | with_reducible refine Tr.x_sl ?_
  | with_reducible refine Tr.x_slt ?_
  | with_reducible refine Tr.x_sll ?_
  | with_reducible refine Tr.x_slo ?_
  | ((with_reducible apply Tr.x_sls); (first | omega | (simp only [List.length_map, List.length_append, List.length_cons, List.length_nil, List.length_replicate, List.length_drop, List.length_take, List.length_set]; omega) | decide))
  | with_reducible refine Tr.x_oN ?_
  | with_reducible refine Tr.x_oS ?_
  | with_reducible refine Tr.x_oSv ?_
  | with_reducible refine Tr.x_cb ?_
  | with_reducible refine Tr.x_lenlst ?_
  | with_reducible refine Tr.x_tupoflst ?_
  | with_reducible refine Tr.x_lentup ?_
  | with_reducible refine Tr.x_tupoftup ?_
  | with_reducible refine Tr.x_lenscr ?_
  | with_reducible refine Tr.x_tupofscr ?_
  | with_reducible refine Tr.x_leno ?_
  | with_reducible refine Tr.x_tupofo ?_
  | ((with_reducible apply Tr.x_lens); (first | omega | (simp only [List.length_map, List.length_append, List.length_cons, List.length_nil, List.length_replicate, List.length_drop, List.length_take, List.length_set]; omega) | decide))
  | with_reducible refine Tr.x_intb ?_
  | with_reducible refine Tr.x_intb0 ?_
  | with_reducible refine Tr.x_inti ?_
  | with_reducible refine Tr.x_max2 ?_
  | with_reducible refine Tr.x_min2 ?_
  | with_reducible refine Tr.x_abs ?_
  | with_reducible refine Tr.x_isinint ?_
  | with_reducible refine Tr.x_isinbool ?_
  | with_reducible refine Tr.x_isinstr ?_
  | with_reducible refine Tr.x_isintuple ?_
  | with_reducible refine Tr.x_isinlist ?_
  | with_reducible refine Tr.x_isindict ?_
  | with_reducible refine Tr.x_isibint ?_
  | with_reducible refine Tr.x_isibbool ?_
  | with_reducible refine Tr.x_isibstr ?_
  | with_reducible refine Tr.x_isibtuple ?_
  | with_reducible refine Tr.x_isiblist ?_
  | with_reducible refine Tr.x_isibdict ?_
  | with_reducible refine Tr.x_isiiint ?_
  | with_reducible refine Tr.x_isiibool ?_
  | with_reducible refine Tr.x_isiistr ?_
  | with_reducible refine Tr.x_isiituple ?_
  | with_reducible refine Tr.x_isiilist ?_
  | with_reducible refine Tr.x_isiidict ?_
  | with_reducible refine Tr.x_isisint ?_
  | with_reducible refine Tr.x_isisbool ?_
  | with_reducible refine Tr.x_isisstr ?_
  | with_reducible refine Tr.x_isistuple ?_
  | with_reducible refine Tr.x_isislist ?_
  | with_reducible refine Tr.x_isisdict ?_
  | with_reducible refine Tr.x_isitint ?_
  | with_reducible refine Tr.x_isitbool ?_
  | with_reducible refine Tr.x_isitstr ?_
  | with_reducible refine Tr.x_isittuple ?_
  | with_reducible refine Tr.x_isitlist ?_
  | with_reducible refine Tr.x_isitdict ?_
  | with_reducible refine Tr.x_isilint ?_
  | with_reducible refine Tr.x_isilbool ?_
  | with_reducible refine Tr.x_isilstr ?_
  | with_reducible refine Tr.x_isiltuple ?_
  | with_reducible refine Tr.x_isillist ?_
  | with_reducible refine Tr.x_isildict ?_
  | with_reducible refine Tr.x_isidint ?_
  | with_reducible refine Tr.x_isidbool ?_
  | with_reducible refine Tr.x_isidstr ?_
  | with_reducible refine Tr.x_isidtuple ?_
  | with_reducible refine Tr.x_isidlist ?_
  | with_reducible refine Tr.x_isiddict ?_
  | with_reducible refine Tr.x_lc ?_
  | with_reducible refine Tr.x_iseq ?_
  | with_reducible refine Tr.x_seqlst ?_
  | with_reducible refine Tr.x_seqtup ?_
  | with_reducible refine Tr.x_seqscr ?_
  | with_reducible refine Tr.x_istr ?_
  | with_reducible refine Tr.x_istrv ?_
  | with_reducible refine Tr.x_rg1 ?_
  | ((with_reducible apply Tr.x_rg1v); (first | omega | (simp only [List.length_map, List.length_append, List.length_cons, List.length_nil, List.length_replicate, List.length_drop, List.length_take, List.length_set]; omega) | decide); (first | omega | (simp only [List.length_map, List.length_append, List.length_cons, List.length_nil, List.length_replicate, List.length_drop, List.length_take, List.length_set]; omega) | decide))
  | with_reducible refine Tr.x_rg2 ?_
  | ((with_reducible apply Tr.x_rg2v); (first | omega | (simp only [List.length_map, List.length_append, List.length_cons, List.length_nil, List.length_replicate, List.length_drop, List.length_take, List.length_set]; omega) | decide); (first | omega | (simp only [List.length_map, List.length_append, List.length_cons, List.length_nil, List.length_replicate, List.length_drop, List.length_take, List.length_set]; omega) | decide); (first | omega | (simp only [List.length_map, List.length_append, List.length_cons, List.length_nil, List.length_replicate, List.length_drop, List.length_take, List.length_set]; omega) | decide); (first | omega | (simp only [List.length_map, List.length_append, List.length_cons, List.length_nil, List.length_replicate, List.length_drop, List.length_take, List.length_set]; omega) | decide))
  | with_reducible refine Tr.x_en ?_
  | with_reducible refine Tr.x_enl ?_
  | with_reducible refine Tr.x_ent ?_
  | with_reducible refine Tr.x_sw ?_
  | with_reducible refine Tr.x_sw1 ?_
  | with_reducible refine Tr.x_swv ?_
  | with_reducible refine Tr.x_call ?_
  | ((with_reducible apply Tr.x_call0_0); (exact rfl))
  | ((with_reducible apply Tr.x_call0_1); (exact rfl))
  | ((with_reducible apply Tr.x_call0_2); (exact rfl))
  | ((with_reducible apply Tr.x_call0_3); (exact rfl))
  | ((with_reducible apply Tr.x_call1_0); (exact rfl))
  | ((with_reducible apply Tr.x_call1_1); (exact rfl))
  | ((with_reducible apply Tr.x_call1_2); (exact rfl))
  | ((with_reducible apply Tr.x_call1_3); (exact rfl))
  | ((with_reducible apply Tr.x_call2_0); (exact rfl))
  | ((with_reducible apply Tr.x_call2_1); (exact rfl))
  | ((with_reducible apply Tr.x_call2_2); (exact rfl))
  | ((with_reducible apply Tr.x_call2_3); (exact rfl))
  | ((with_reducible apply Tr.x_call3_0); (exact rfl))
  | ((with_reducible apply Tr.x_call3_1); (exact rfl))
  | ((with_reducible apply Tr.x_call3_2); (exact rfl))
  | ((with_reducible apply Tr.x_call3_3); (exact rfl))
  | ((with_reducible apply Tr.x_call4_0); (exact rfl))
  | ((with_reducible apply Tr.x_call4_1); (exact rfl))
  | ((with_reducible apply Tr.x_call4_2); (exact rfl))
  | ((with_reducible apply Tr.x_call4_3); (exact rfl))
  | ((with_reducible apply Tr.x_call5_0); (exact rfl))
  | ((with_reducible apply Tr.x_call5_1); (exact rfl))
  | ((with_reducible apply Tr.x_call5_2); (exact rfl))
  | ((with_reducible apply Tr.x_call5_3); (exact rfl))
  | ((with_reducible apply Tr.x_call6_0); (exact rfl))
  | ((with_reducible apply Tr.x_call6_1); (exact rfl))
  | ((with_reducible apply Tr.x_call6_2); (exact rfl))
  | ((with_reducible apply Tr.x_call6_3); (exact rfl))
  | ((with_reducible apply Tr.x_call7_0); (exact rfl))
  | ((with_reducible apply Tr.x_call7_1); (exact rfl))
  | ((with_reducible apply Tr.x_call7_2); (exact rfl))
  | ((with_reducible apply Tr.x_call7_3); (exact rfl))
  | with_reducible refine Tr.x_met ?_
  | ((with_reducible apply Tr.x_metI); (decide +kernel))
  | ((with_reducible apply Tr.x_met0_0); (exact rfl))
  | ((with_reducible apply Tr.x_met0_1); (exact rfl))
  | ((with_reducible apply Tr.x_met0_2); (exact rfl))
  | ((with_reducible apply Tr.x_met1_0); (exact rfl))
  | ((with_reducible apply Tr.x_met1_1); (exact rfl))
  | ((with_reducible apply Tr.x_met1_2); (exact rfl))
  | ((with_reducible apply Tr.x_met2_0); (exact rfl))
  | ((with_reducible apply Tr.x_met2_1); (exact rfl))
  | ((with_reducible apply Tr.x_met2_2); (exact rfl))
  | ((with_reducible apply Tr.x_met3_0); (exact rfl))
  | ((with_reducible apply Tr.x_met3_1); (exact rfl))
  | ((with_reducible apply Tr.x_met3_2); (exact rfl))
  | ((with_reducible apply Tr.x_met4_0); (exact rfl))
  | ((with_reducible apply Tr.x_met4_1); (exact rfl))
  | ((with_reducible apply Tr.x_met4_2); (exact rfl))
  | ((with_reducible apply Tr.x_met5_0); (exact rfl))
  | ((with_reducible apply Tr.x_met5_1); (exact rfl))
  | ((with_reducible apply Tr.x_met5_2); (exact rfl))
  | ((with_reducible apply Tr.x_met6_0); (exact rfl))
  | ((with_reducible apply Tr.x_met6_1); (exact rfl))
  | ((with_reducible apply Tr.x_met6_2); (exact rfl))
  | ((with_reducible apply Tr.x_met7_0); (exact rfl))
  | ((with_reducible apply Tr.x_met7_1); (exact rfl))
  | ((with_reducible apply Tr.x_met7_2); (exact rfl))
  | with_reducible refine Tr.x_mk ?_
  | ((with_reducible apply Tr.x_mk0_0); (exact rfl))
  | ((with_reducible apply Tr.x_mk0_1); (exact rfl))
  | ((with_reducible apply Tr.x_mk0_2); (exact rfl))
  | ((with_reducible apply Tr.x_mk0_3); (exact rfl))
  | ((with_reducible apply Tr.x_mk1_0); (exact rfl))
  | ((with_reducible apply Tr.x_mk1_1); (exact rfl))
  | ((with_reducible apply Tr.x_mk1_2); (exact rfl))
  | ((with_reducible apply Tr.x_mk1_3); (exact rfl))
  | ((with_reducible apply Tr.x_mk2_0); (exact rfl))
  | ((with_reducible apply Tr.x_mk2_1); (exact rfl))
  | ((with_reducible apply Tr.x_mk2_2); (exact rfl))
  | ((with_reducible apply Tr.x_mk2_3); (exact rfl))
  | ((with_reducible apply Tr.x_mk3_0); (exact rfl))
  | ((with_reducible apply Tr.x_mk3_1); (exact rfl))
  | ((with_reducible apply Tr.x_mk3_2); (exact rfl))
  | ((with_reducible apply Tr.x_mk3_3); (exact rfl))
  | ((with_reducible apply Tr.x_mk4_0); (exact rfl))
  | ((with_reducible apply Tr.x_mk4_1); (exact rfl))
  | ((with_reducible apply Tr.x_mk4_2); (exact rfl))
  | ((with_reducible apply Tr.x_mk4_3); (exact rfl))
  | ((with_reducible apply Tr.x_mk5_0); (exact rfl))
  | ((with_reducible apply Tr.x_mk5_1); (exact rfl))
  | ((with_reducible apply Tr.x_mk5_2); (exact rfl))
  | ((with_reducible apply Tr.x_mk5_3); (exact rfl))
  | ((with_reducible apply Tr.x_mk6_0); (exact rfl))
  | ((with_reducible apply Tr.x_mk6_1); (exact rfl))
  | ((with_reducible apply Tr.x_mk6_2); (exact rfl))
  | ((with_reducible apply Tr.x_mk6_3); (exact rfl))
  | ((with_reducible apply Tr.x_mk7_0); (exact rfl))
  | ((with_reducible apply Tr.x_mk7_1); (exact rfl))
  | ((with_reducible apply Tr.x_mk7_2); (exact rfl))
  | ((with_reducible apply Tr.x_mk7_3); (exact rfl))
  | with_reducible refine Tr.x_fld ?_
  | ((with_reducible apply Tr.x_fldI); (exact rfl))
  | with_reducible refine Tr.x_isI ?_
  | with_reducible refine Tr.x_isIt ?_
  | with_reducible refine Tr.x_isI_n ?_
  | with_reducible refine Tr.x_isI_b ?_
  | with_reducible refine Tr.x_isI_i ?_
  | with_reducible refine Tr.x_isI_s ?_
  | with_reducible refine Tr.x_isI_t ?_
  | with_reducible refine Tr.x_isI_l ?_
  | with_reducible refine Tr.x_isI_d ?_
  | with_reducible refine Tr.x_bl ?_
  | with_reducible refine Tr.x_bln ?_
  | with_reducible refine Tr.x_eqo ?_
  | ((with_reducible apply Tr.x_eqoI); (first | exact rfl | exact True.intro))
  | with_reducible refine Tr.x_neo ?_
  | ((with_reducible apply Tr.x_neoI); (first | exact rfl | exact True.intro))
  | with_reducible refine Tr.x_nseq ?_
  | with_reducible refine Tr.x_nnext ?_
  | with_reducible refine Tr.x_ndrop ?_
  | with_reducible refine Tr.x_nif ?_
  | with_reducible refine Tr.x_nset ?_
  | ((with_reducible apply Tr.x_nsetv); (decide +kernel); (decide +kernel); (simp only [List.cons_append, List.nil_append]; exact rfl); (simp only [List.cons_append, List.nil_append]; exact rfl))
  | ((with_reducible apply Tr.x_stn); (simp only [List.set_cons_succ, List.set_cons_zero]; exact rfl))
  | ((with_reducible apply Tr.x_var); exact rfl)
  | ((with_reducible apply Tr.x_vard); exact rfl)
  | ((with_reducible apply Tr.x_varo); exact rfl)
  | with_reducible refine Tr.x_srt ?_
  | with_reducible refine Tr.x_maxA ?_
  | with_reducible refine Tr.x_minA ?_
  | ((with_reducible apply Tr.x_augM); (exact rfl))
  | ((with_reducible apply Tr.x_augMv); (first | exact Tr.wideL0 (by omega) | exact Tr.wideR0 (by omega)))
  | with_reducible refine Tr.x_lr1 ?_
  | ((with_reducible apply Tr.x_lr1v); (first | omega | (simp only [List.length_map, List.length_append, List.length_cons, List.length_nil, List.length_replicate, List.length_drop, List.length_take, List.length_set]; omega) | decide); (first | omega | (simp only [List.length_map, List.length_append, List.length_cons, List.length_nil, List.length_replicate, List.length_drop, List.length_take, List.length_set]; omega) | decide))
  | with_reducible refine Tr.x_lr2 ?_
  | ((with_reducible apply Tr.x_lr2v); (first | omega | (simp only [List.length_map, List.length_append, List.length_cons, List.length_nil, List.length_replicate, List.length_drop, List.length_take, List.length_set]; omega) | decide); (first | omega | (simp only [List.length_map, List.length_append, List.length_cons, List.length_nil, List.length_replicate, List.length_drop, List.length_take, List.length_set]; omega) | decide); (first | omega | (simp only [List.length_map, List.length_append, List.length_cons, List.length_nil, List.length_replicate, List.length_drop, List.length_take, List.length_set]; omega) | decide); (first | omega | (simp only [List.length_map, List.length_append, List.length_cons, List.length_nil, List.length_replicate, List.length_drop, List.length_take, List.length_set]; omega) | decide))
  | with_reducible refine Tr.x_lenI ?_
  | with_reducible refine Tr.x_lenIv ?_
  | ((with_reducible apply Tr.x_nn); (first | omega | (simp only [List.length_map, List.length_append, List.length_cons, List.length_nil, List.length_replicate, List.length_drop, List.length_take, List.length_set]; omega) | decide))
  | with_reducible refine Tr.x_strI ?_
  | with_reducible refine Tr.x_strIv ?_
  | with_reducible refine Tr.x_sr ?_
  | with_reducible refine Tr.x_kd ?_
  | ((with_reducible apply Tr.x_kdv); (exact rfl))
  | ((with_reducible apply Tr.x_augD); (exact rfl))
  | ((with_reducible apply Tr.x_augDv); (first | assumption | exact Tr.divOk_s (by omega) (by omega) | decide +kernel))
  | with_reducible refine Tr.x_df ?_
  | with_reducible refine Tr.x_dfH ?_
  | with_reducible refine Tr.x_sorted ?_
  | with_reducible refine Tr.x_max3 ?_
  | with_reducible refine Tr.x_min3 ?_
  | with_reducible refine Tr.x_notT ?_
  | with_reducible refine Tr.x_lenSet ?_
  | with_reducible refine Tr.x_neE ?_
  | with_reducible refine Tr.x_eqE ?_
  | with_reducible refine Tr.x_parOO ?_
  | with_reducible refine Tr.x_parOO1 ?_
  | with_reducible refine Tr.x_parOOv fun _ _ => ?_
  | with_reducible refine Tr.x_parOV ?_
  | with_reducible refine Tr.x_parOV1 ?_
  | with_reducible refine Tr.x_parOVv fun _ => ?_
  | with_reducible refine Tr.x_parVO ?_
  | with_reducible refine Tr.x_parVO1 ?_
  | with_reducible refine Tr.x_parVOv fun _ => ?_
  | with_reducible refine Tr.x_reprB ?_
  | with_reducible refine Tr.x_wD ?_
  | ((with_reducible apply Tr.x_lcI); (exact rfl))
  | ((with_reducible apply Tr.x_dcI); (exact rfl))
  | ((with_reducible apply Tr.x_forI); (exact rfl))
  | with_reducible refine Tr.x_dc ?_
  | with_reducible refine Tr.x_sortK ?_
  | with_reducible refine Tr.x_listK ?_
  | with_reducible refine Tr.x_listKv ?_
  | with_reducible refine Tr.x_itemsL ?_
  | with_reducible refine Tr.x_itemsLv ?_
  | with_reducible refine Tr.x_itemsLo ?_
  | with_reducible refine Tr.x_lenD ?_
  | with_reducible refine Tr.x_lenDv ?_
  | ((with_reducible apply Tr.x_notOD); (exact rfl))
  | with_reducible refine Tr.x_dictM ?_
  | with_reducible refine Tr.x_dget ?_
  | ((with_reducible apply Tr.x_frzD); (exact rfl))
  | with_reducible refine Tr.x_parVD ?_
  | with_reducible refine Tr.x_dOne ?_
  | with_reducible refine Tr.x_metW ?_
  | with_reducible refine Tr.x_any (fun _ => ?_)
  | ((with_reducible apply Tr.x_hitW); (assumption); (decide +kernel))
  | ((with_reducible apply Tr.x_missW); (assumption); (decide +kernel); (decide +kernel); (decide +kernel))
  | with_reducible refine Tr.x_rev ?_
  | with_reducible refine Tr.x_revt ?_
  | with_reducible refine Tr.x_revl ?_
  | ((with_reducible apply Tr.x_lstn); (exact rfl); (exact Nat.le_of_ble_eq_true rfl))
  | with_reducible refine Tr.x_DNew ?_
  | with_reducible refine Tr.x_DCon ?_
  | with_reducible refine Tr.x_DCopy ?_
  | with_reducible refine Tr.x_dcpv ?_
  | with_reducible refine Tr.x_dcpo ?_
  | with_reducible refine Tr.x_ownD ?_
  | with_reducible refine Tr.x_ownDv (fun _ => ?_)
  | with_reducible refine Tr.x_dg1 ?_
  | with_reducible refine Tr.x_dg1v ?_
  | with_reducible refine Tr.x_dg1o ?_
  | with_reducible refine Tr.x_dg1s ?_
  | with_reducible refine Tr.x_dg1i ?_
  | with_reducible refine Tr.x_dg2 ?_
  | with_reducible refine Tr.x_dg2v ?_
  | with_reducible refine Tr.x_dg2o ?_
  | with_reducible refine Tr.x_dg2Cs ?_
  | with_reducible refine Tr.x_dg2Ci ?_
  | with_reducible refine Tr.x_dIn ?_
  | ((with_reducible apply Tr.x_diVs); (exact rfl); (exact rfl))
  | ((with_reducible apply Tr.x_diVi); (exact rfl); (exact rfl))
  | with_reducible refine Tr.x_dput ?_
  | ((with_reducible apply Tr.x_dputH); (exact rfl); (first | omega | (simp only [List.length_map, List.length_append, List.length_cons, List.length_nil, List.length_replicate]; omega)))
  | with_reducible refine Tr.x_dputs ?_
  | with_reducible refine Tr.x_dputi ?_)
local macro_rules | `(tactic| left) => `(tactic| first
  | with_reducible refine Tr.xx_seq ?_
  | with_reducible refine Tr.xx_N ?_
  | with_reducible refine Tr.xx_L ?_
  | with_reducible refine Tr.xx_E ?_
  | with_reducible refine Tr.xx_if ?_
  | with_reducible refine Tr.xx_ret ?_
  | with_reducible refine Tr.xx_drop ?_
  | with_reducible refine Tr.xx_raise ?_
  | with_reducible refine Tr.xx_call ?_
  | ((with_reducible refine Tr.xx_cv rfl ?_); (simp only [List.map_nil, List.map_cons, List.append_nil, List.cons_append, List.nil_append]))
  | with_reducible refine Tr.xx_make ?_
  | ((with_reducible refine Tr.xx_mv rfl ?_); (simp only [List.map_nil, List.map_cons, List.append_nil, List.cons_append, List.nil_append]))
  | with_reducible refine Tr.xx_meth ?_
  | ((with_reducible refine Tr.xx_mt ?_ ?_); (decide +kernel))
  | ((with_reducible refine Tr.xx_uv rfl ?_); (simp only [List.map_nil, List.map_cons, List.append_nil, List.cons_append, List.nil_append]))
  | with_reducible refine Tr.xx_nseq ?_
  | with_reducible refine Tr.xx_nif ?_
  | with_reducible refine Tr.xx_nL ?_
  | with_reducible refine Tr.xx_nraise ?_
  | with_reducible refine Tr.xx_ndrop ?_
  | with_reducible refine Tr.xx_met ?_
  | ((with_reducible apply Tr.xx_hit); (assumption); (decide +kernel))
  | ((with_reducible apply Tr.xx_miss); (assumption); (decide +kernel); (decide +kernel); (decide +kernel))
  | with_reducible refine Tr.xx_onDice ?_
  | with_reducible refine Tr.xx_is2s ?_
  | with_reducible refine Tr.xx_is2t ?_
  | with_reducible refine Tr.xx_is2f ?_
  | with_reducible refine Tr.xx_is2 ?_)
local macro_rules | `(tactic| left) => `(tactic| first
  | with_reducible refine Tr.x_asgv ?_
  | with_reducible refine Tr.x_st2 ?_
  | with_reducible refine Tr.x_st3 ?_
  | with_reducible refine Tr.x_st4 ?_
  | with_reducible refine Tr.x_st5 ?_
  | with_reducible refine Tr.x_st6 ?_
  | with_reducible refine Tr.x_st7 ?_
  | with_reducible refine Tr.x_st8 ?_
  | with_reducible refine Tr.x_st9 ?_
  | with_reducible refine Tr.x_ifn ?_
  | ((with_reducible apply Tr.x_ifp); (first | assumption | exact rfl | omega | (simp only [List.length_map, List.length_append, List.length_cons, List.length_nil, List.length_replicate, List.length_drop, List.length_take, List.length_set]; omega) | decide))
  | ((with_reducible apply Tr.x_ifq); (first | assumption | omega | (simp only [List.length_map, List.length_append, List.length_cons, List.length_nil, List.length_replicate, List.length_drop, List.length_take, List.length_set]; omega) | decide))
  | with_reducible refine Tr.x_drop ?_
  | with_reducible refine Tr.x_own ?_
  | with_reducible refine Tr.x_ownl fun l => ?_
  | with_reducible refine Tr.x_asgT ?_
  | with_reducible refine Tr.x_asgT2 ?_
  | ((with_reducible apply Tr.x_frz); (exact rfl))
  | with_reducible refine Tr.x_for ?_
  | with_reducible refine Tr.x_Bv ?_
  | with_reducible refine Tr.x_nott ?_
  | with_reducible refine Tr.x_notf ?_
  | with_reducible refine Tr.x_and ?_
  | with_reducible refine Tr.x_trutup1 ?_
  | with_reducible refine Tr.x_d0 ?_
  | with_reducible refine Tr.x_o1 ?_
  | with_reducible refine Tr.x_v3 ?_
  | with_reducible refine Tr.x_o3 ?_
  | with_reducible refine Tr.x_v4 ?_
  | with_reducible refine Tr.x_v6 ?_
  | with_reducible refine Tr.x_v7 ?_
  | with_reducible refine Tr.x_v9 ?_
  | with_reducible refine Tr.x_dct ?_
  | with_reducible refine Tr.x_opov ?_
  | with_reducible refine Tr.x_eq ?_
  | with_reducible refine Tr.x_lt ?_
  | with_reducible refine Tr.x_gt ?_
  | ((with_reducible apply Tr.x_keqTt); (decide +kernel))
  | ((with_reducible apply Tr.x_keqTf); (decide +kernel))
  | ((with_reducible apply Tr.x_addt); (first | omega | (simp only [List.length_map, List.length_append, List.length_cons, List.length_nil, List.length_replicate, List.length_drop, List.length_take, List.length_set]; omega) | decide))
  | with_reducible refine Tr.x_ixtup0 ?_
  | with_reducible refine Tr.x_ixtup1 ?_
  | with_reducible refine Tr.x_un ?_
  | with_reducible refine Tr.x_neg ?_
  | with_reducible refine Tr.x_tup0 ?_
  | with_reducible refine Tr.x_lst1 ?_
  | with_reducible refine Tr.x_tup2 ?_
  | with_reducible refine Tr.x_lst8 ?_
  | with_reducible refine Tr.x_lst9 ?_
  | with_reducible refine Tr.x_lst10 ?_
  | with_reducible refine Tr.x_lst11 ?_
  | with_reducible refine Tr.x_sl ?_
  | with_reducible refine Tr.x_slt ?_
  | with_reducible refine Tr.x_oN ?_
  | with_reducible refine Tr.x_oS ?_
  | with_reducible refine Tr.x_oSv ?_
  | with_reducible refine Tr.x_tupoflst ?_
  | with_reducible refine Tr.x_lentup ?_
  | with_reducible refine Tr.x_leno ?_
  | with_reducible refine Tr.x_isintuple ?_
  | with_reducible refine Tr.x_isisstr ?_
  | with_reducible refine Tr.x_isistuple ?_
  | with_reducible refine Tr.x_isittuple ?_
  | with_reducible refine Tr.x_isiltuple ?_
  | with_reducible refine Tr.x_lc ?_
  | with_reducible refine Tr.x_iseq ?_
  | with_reducible refine Tr.x_seqtup ?_
  | ((with_reducible apply Tr.x_call3_0); (exact rfl))
  | with_reducible refine Tr.x_met ?_
  | ((with_reducible apply Tr.x_metI); (decide +kernel))
  | ((with_reducible apply Tr.x_met1_0); (exact rfl))
  | with_reducible refine Tr.x_mk ?_
  | ((with_reducible apply Tr.x_mk0_2); (exact rfl))
  | ((with_reducible apply Tr.x_mk2_0); (exact rfl))
  | with_reducible refine Tr.x_isI ?_
  | with_reducible refine Tr.x_isIt ?_
  | with_reducible refine Tr.x_eqo ?_
  | ((with_reducible apply Tr.x_eqoI); (first | exact rfl | exact True.intro))
  | with_reducible refine Tr.x_nseq ?_
  | with_reducible refine Tr.x_nset ?_
  | ((with_reducible apply Tr.x_nsetv); (decide +kernel); (decide +kernel); (simp only [List.cons_append, List.nil_append]; exact rfl); (simp only [List.cons_append, List.nil_append]; exact rfl))
  | ((with_reducible apply Tr.x_var); exact rfl)
  | with_reducible refine Tr.xx_N ?_
  | with_reducible refine Tr.xx_L ?_
  | with_reducible refine Tr.xx_make ?_
  | ((with_reducible refine Tr.xx_mv rfl ?_); (simp only [List.map_nil, List.map_cons, List.append_nil, List.cons_append, List.nil_append]))
  | with_reducible refine Tr.xx_meth ?_
  | ((with_reducible refine Tr.xx_mt ?_ ?_); (decide +kernel))
  | ((with_reducible refine Tr.xx_uv rfl ?_); (simp only [List.map_nil, List.map_cons, List.append_nil, List.cons_append, List.nil_append]))
  | with_reducible refine Tr.xx_nseq ?_
  | with_reducible refine Tr.xx_nif ?_
  | with_reducible refine Tr.xx_nL ?_
  | with_reducible refine Tr.xx_nraise ?_
  | with_reducible refine Tr.xx_is2s ?_)
local macro_rules | `(tactic| left) => `(tactic| first
  | with_reducible refine Tr.x_next ?_
  | with_reducible refine Tr.x_asg ?_
  | with_reducible refine Tr.x_st1 ?_
  | with_reducible refine Tr.x_ift ?_
  | with_reducible refine Tr.x_iff ?_
  | with_reducible refine Tr.x_retK ?_
  | with_reducible refine Tr.x_appv ?_
  | with_reducible refine Tr.x_B ?_
  | with_reducible refine Tr.x_not ?_
  | with_reducible refine Tr.x_or ?_
  | with_reducible refine Tr.x_tru ?_
  | with_reducible refine Tr.x_trub ?_
  | with_reducible refine Tr.x_andV ?_
  | with_reducible refine Tr.x_bo ?_
  | with_reducible refine Tr.x_v1 ?_
  | with_reducible refine Tr.x_v2 ?_
  | with_reducible refine Tr.x_v5 ?_
  | with_reducible refine Tr.x_v8 ?_
  | with_reducible refine Tr.x_tup ?_
  | with_reducible refine Tr.x_Lst ?_
  | with_reducible refine Tr.x_tup1 ?_
  | with_reducible refine Tr.x_L ?_
  | ((with_reducible apply Tr.x_call1_0); (exact rfl))
  | ((with_reducible apply Tr.x_call2_0); (exact rfl))
  | with_reducible refine Tr.x_fld ?_
  | ((with_reducible apply Tr.x_fldI); (exact rfl))
  | with_reducible refine Tr.xx_seq ?_
  | with_reducible refine Tr.xx_if ?_
  | with_reducible refine Tr.xx_drop ?_
  | with_reducible refine Tr.xx_raise ?_
  | with_reducible refine Tr.xx_met ?_
  | ((with_reducible apply Tr.xx_hit); (assumption); (decide +kernel))
  | ((with_reducible apply Tr.xx_miss); (assumption); (decide +kernel); (decide +kernel); (decide +kernel)))
local macro_rules | `(tactic| left) => `(tactic| first
  | with_reducible refine Tr.x_seq ?_
  | with_reducible refine Tr.x_if ?_
  | with_reducible refine Tr.x_ret ?_
  | ((with_reducible apply Tr.x_app); (exact rfl); (first | omega | (simp only [List.length_map, List.length_append, List.length_cons, List.length_nil, List.length_replicate, List.length_drop, List.length_take, List.length_set]; omega) | decide))
  | with_reducible refine Tr.x_v0 ?_
  | with_reducible refine Tr.x_C ?_
  | with_reducible refine Tr.x_op ?_
  | with_reducible refine Tr.x_opvv ?_
  | with_reducible refine Tr.x_nil ?_
  | with_reducible refine Tr.x_cons ?_
  | with_reducible refine Tr.x_cb ?_
  | with_reducible refine Tr.x_call ?_
  | with_reducible refine Tr.xx_call ?_
  | ((with_reducible refine Tr.xx_cv rfl ?_); (simp only [List.map_nil, List.map_cons, List.append_nil, List.cons_append, List.nil_append])))
local macro_rules | `(tactic| left) => `(tactic| first
  | with_reducible refine Tr.x_metA ?_
  | with_reducible refine Tr.x_raiseF ?_
  | with_reducible refine Tr.x_rfv ?_
  | ((with_reducible apply Tr.x_hitA); (assumption); (decide +kernel); (intro _ _))
  | ((with_reducible apply Tr.x_hitS); (assumption); (decide +kernel); (intro _ _; dsimp only [List.replicate, List.set]))
  | ((with_reducible apply Tr.x_missA); (assumption); (decide +kernel); (decide +kernel); (decide +kernel))
  | with_reducible refine Tr.x_xf rfl ?_
  | with_reducible refine Tr.x_cvv rfl ?_
  | with_reducible refine Tr.x_forX ?_
  | with_reducible refine Tr.x_isX ?_
  | with_reducible refine Tr.x_isXi ?_
  | with_reducible refine Tr.x_isXt ?_
  | with_reducible refine Tr.x_isXl ?_
  | with_reducible refine Tr.x_isXn ?_
  | with_reducible refine Tr.x_isXs ?_
  | with_reducible refine Tr.x_isXz ?_
  | with_reducible refine Tr.x_isXb ?_
  | with_reducible refine Tr.x_isXd ?_
  | with_reducible refine Tr.x_methA ?_
  | ((with_reducible refine Tr.x_maI ?_ ?_); (decide +kernel))
  | ((with_reducible refine Tr.x_mav rfl ?_); (simp only [List.map_nil, List.map_cons, List.append_nil, List.cons_append, List.nil_append]))
  | with_reducible refine Tr.x_callA ?_
  | ((with_reducible refine Tr.x_cav rfl ?_); (simp only [List.map_nil, List.map_cons, List.append_nil, List.cons_append, List.nil_append])))
local macro_rules | `(tactic| left) => `(tactic| first
  | with_reducible refine Tr.x_rgD ?_
  | ((with_reducible apply Tr.x_rgDv); (first | omega | (simp only [List.length_map, List.length_append, List.length_cons, List.length_nil, List.length_replicate, List.length_drop, List.length_take, List.length_set]; omega) | decide); (first | omega | (simp only [List.length_map, List.length_append, List.length_cons, List.length_nil, List.length_replicate, List.length_drop, List.length_take, List.length_set]; omega) | decide); (first | omega | (simp only [List.length_map, List.length_append, List.length_cons, List.length_nil, List.length_replicate, List.length_drop, List.length_take, List.length_set]; omega) | decide); (first | omega | (simp only [List.length_map, List.length_append, List.length_cons, List.length_nil, List.length_replicate, List.length_drop, List.length_take, List.length_set]; omega) | decide))
  | with_reducible refine Tr.x_srtS ?_
  | with_reducible refine Tr.x_srtU ?_)
namespace My
open PySem PySem.Spec PyProof.Rows L2 Tr
variable [Tabl]

open PySem PySem.Spec PyProof.Rows L2 Tr
variable [Tabl]

theorem abc_mem (c : Nat) : decide (c ∈ ("abcdefghijklmnopqrstuvwxyz" : Str).cps.toList) = (decide (97 ≤ c) && decide (c ≤ 122)) := by
  have e : ("abcdefghijklmnopqrstuvwxyz" : Str).cps.toList = [97,98,99,100,101,102,103,104,105,106,107,108,109,110,111,112,113,114,115,116,117,118,119,120,121,122] := by decide +kernel
  rw [e, Bool.eq_iff_iff, Bool.and_eq_true, decide_eq_true_iff, decide_eq_true_iff, decide_eq_true_iff]
  constructor
  · intro h
    have : ∀ x ∈ [97,98,99,100,101,102,103,104,105,106,107,108,109,110,111,112,113,114,115,116,117,118,119,120,121,122], 97 ≤ x ∧ x ≤ 122 := by decide
    exact this c h
  · intro ⟨h1, h2⟩
    have : ∀ x : Fin 123, 97 ≤ x.val → x.val ∈ [97,98,99,100,101,102,103,104,105,106,107,108,109,110,111,112,113,114,115,116,117,118,119,120,121,122] := by decide
    exact this ⟨c, by omega⟩ h1


open PySem PySem.Spec PyProof.Rows L2 Tr
variable [Tabl]

open PySem PySem.Spec PyProof.Rows L2 Tr
variable [Tabl]

open PySem PySem.Spec PyProof.Rows L2 Tr
section
variable {P : Sl → Prop} {x y : T} {lo hi s m u : Int}
abbrev B (b : Bool) : Sl := .val (.bl b)
abbrev I (i : Int) : Sl := .val (.int i)
/-- no instance, no class -/
def plain : T → Bool
  | .ins _ _ _ => false
  | .ty _ => false
  | .fn _ => false
  | .exc _ _ _ _ => false
  | _ => true
def isWhole : T → Bool
  | .int i => decide (-999999999999999999999999999999999999999999999999999999999999 ≤ i) && decide (i ≤ 999999999999999999999999999999999999999999999999999999999999)
  | _ => false
def isWithin (x : T) (lo hi : Int) : Bool := match x with
  | .int i => isWhole (.int i) && (decide (lo ≤ i) && decide (i ≤ hi))
  | _ => false
@[simp] theorem eqT_int {i j : Int} : eqT (.int i) (.int j) = some (.bl (decide (i = j))) := rfl
@[simp] theorem neT_int {i j : Int} : neT (.int i) (.int j) = some (.bl (!decide (i = j))) := rfl
theorem r_is_whole (h : plain x = true) (p : P (B (isWhole x))) : w_is_whole [.val x] P := by
  refine ⟨rfl, ?_⟩
  cases x <;> first | (cases h; done) | simp [-Bool.exists_bool, -Bool.not_eq_eq_eq_not]
  case int i =>
    have p' : P (.val (.bl (decide (-999999999999999999999999999999999999999999999999999999999999 ≤ i) && decide (i ≤ 999999999999999999999999999999999999999999999999999999999999)))) := p
    by_cases h1 : -999999999999999999999999999999999999999999999999999999999999 ≤ i
    · rw [decide_eq_true h1] at p'
      rw [if_pos h1]
      exact p'
    · rw [decide_eq_false h1] at p'
      rw [if_neg h1]
      exact p'
  all_goals exact p
theorem r_is_within (h : plain x = true) (p : P (B (isWithin x lo hi))) : w_is_within [.val x, I lo, I hi] P := by
  refine ⟨rfl, ?_⟩
  simp [-Bool.exists_bool, -Bool.not_eq_eq_eq_not]
  refine r_is_whole h ?_
  refine ⟨_, rfl, ?_⟩
  cases hw : isWhole x with
  | false =>
    cases x with
    | int i =>
      have p' : P (B (isWhole (.int i) && (decide (lo ≤ i) && decide (i ≤ hi)))) := p
      rw [hw] at p'
      exact p'
    | _ => exact p
  | true =>
    cases x with
    | int i =>
      have p' : P (B (isWhole (.int i) && (decide (lo ≤ i) && decide (i ≤ hi)))) := p
      rw [hw] at p'
      simp [-Bool.exists_bool, -Bool.not_eq_eq_eq_not]
      by_cases h1 : lo ≤ i
      · rw [if_pos h1]
        rw [decide_eq_true h1] at p'
        exact p'
      · rw [if_neg h1]
        rw [decide_eq_false h1] at p'
        exact p'
    | _ => cases hw
theorem allB {α : Type} (f : α → Bool) (ts : List α) : ((ts.map f).all id) = ts.all f := by
  rw [List.all_map]
  rfl
theorem wideL {i j : Int} (h : i.natAbs < 2 ^ 64) : wide i j = true := by
  unfold wide
  rw [Bool.or_eq_true, Bool.or_eq_true]
  exact .inl (.inl (decide_eq_true h))
theorem wideR {i j : Int} (h : j.natAbs < 2 ^ 64) : wide i j = true := by
  unfold wide
  rw [Bool.or_eq_true, Bool.or_eq_true]
  exact .inl (.inr (decide_eq_true h))
theorem mul_ok {i j : Int} (h : wide i j = true) : mulT (.int i) (.int j) = some (.int (i * j)) := by
  rw [mulT_int, if_pos h]
theorem mod_ok {i j : Int} (h : 0 < j) : modT (.int i) (.int j) = some (.int (i % j)) := by
  rw [modT_int, if_pos (decide_eq_true h)]
theorem div_ok {i j : Int} (h : divOk j = true) : divT (.int i) (.int j) = some (.int (i / j)) := by
  rw [divT_int, if_pos h]
theorem log2s {n : Int} (h0 : 0 < n) (h : n < 2 ^ 64) : n.natAbs.log2 < 9000 := Nat.lt_of_lt_of_le (PySem.Flt.log2_lt_of (k := 64) (by decide) (by omega)) (by decide)
theorem r__law_roll {n : Int} (h0 : 0 < n) (hl : n.natAbs.log2 < 9000) (p : ∀ r : Int, 0 ≤ r → r < n → P (I r)) : w__law_roll [.dice, I n] P := by
  refine ⟨rfl, ?_⟩
  simp [-Bool.exists_bool, -Bool.not_eq_eq_eq_not]
  have hd : divOk n = true := by
    unfold divOk
    rw [Bool.and_eq_true]
    exact ⟨decide_eq_true h0, decide_eq_true hl⟩
  intro a
  split
  · intro a2
    exact ⟨_, ⟨h0, rfl⟩, fun a3 => ⟨_, ⟨hd, rfl⟩, ⟨_, rfl⟩, p _ (Int.emod_nonneg _ (by omega)) (Int.emod_lt_of_pos _ h0)⟩⟩
  · intro b c
    refine ⟨_, ⟨wideL (by decide), rfl⟩, _, rfl, _, rfl, _, mod_ok (by decide), _, mul_ok (wideL ?_), fun d => ⟨_, ⟨wideL (by decide), rfl⟩, _, rfl, _, rfl, _, mod_ok (by decide), _, mul_ok (wideR (by decide)), _, rfl, _, div_ok (by decide +kernel), _, rfl, _, mod_ok h0, p _ (Int.emod_nonneg _ (by omega)) (Int.emod_lt_of_pos _ h0)⟩⟩
    have := Int.emod_lt_of_pos (b + 68718953 * c) (show (0 : Int) < 2305843009213693487 by decide)
    have := Int.emod_nonneg (b + 68718953 * c) (show (2305843009213693487 : Int) ≠ 0 by decide)
    omega
end
section
variable {P : Sl → Prop} {x y : T} {lo hi s u : Int} {m : Nat}
/-- data of numbers, at most n deep -/
def sh : Nat → T → Bool
  | _, .non => true
  | _, .bl _ => true
  | _, .int _ => true
  | _, .str x => x.cps.all (· < 0x110000)
  | n + 1, .tup ts => ts.all (sh n)
  | n + 1, .lst ts => ts.all (sh n)
  | _, _ => false
theorem sh_all {n : Nat} {f : T → Option PyData} (h : ∀ t, sh n t = true → ∃ d, dat t = some d ∧ d.canLay0 = true ∧ d.depth ≤ n) : ∀ ts : List T, (∀ t ∈ ts, sh n t = true) → ∃ ds, datAll ts = some ds ∧ PyData.canLayAll0 ds = true ∧ PyData.depthAll ds ≤ n
  | [], _ => ⟨[], by simp only [datAll], by simp only [PyData.canLayAll0], by simp only [PyData.depthAll]; omega⟩
  | t :: r, k => by
    obtain ⟨d, e1, h1, l1⟩ := h t (k t List.mem_cons_self)
    obtain ⟨ds, e2, h2, l2⟩ := sh_all (f := f) h r fun u hu => k u (List.mem_cons_of_mem _ hu)
    refine ⟨d :: ds, ?_, ?_, ?_⟩
    · simp only [datAll]
      rw [e1, e2]
      rfl
    · simp only [PyData.canLayAll0]
      rw [h1, h2]
      rfl
    · simp only [PyData.depthAll]
      omega
theorem sh_dat : ∀ (n : Nat) (t : T), sh n t = true → ∃ d, dat t = some d ∧ d.canLay0 = true ∧ d.depth ≤ n
  | n, .non, _ => ⟨.none, by simp only [dat], by simp only [PyData.canLay0], by simp only [PyData.depth]; omega⟩
  | n, .bl b, _ => ⟨.bool b, by simp only [dat], by simp only [PyData.canLay0], by simp only [PyData.depth]; omega⟩
  | n, .int i, _ => ⟨.int i, by simp only [dat], by simp only [PyData.canLay0], by simp only [PyData.depth]; omega⟩
  | n, .str x, h => ⟨.str x, by simp only [dat], by
      simp only [PyData.canLay0, PyData.strOk]
      cases n <;> exact h, by simp only [PyData.depth]; omega⟩
  | n + 1, .tup ts, h => by
    obtain ⟨ds, e, h2, l⟩ := sh_all (f := dat) (sh_dat n) ts (fun t ht => List.all_eq_true.mp (show ts.all (sh n) = true from h) t ht)
    refine ⟨.tuple ds, ?_, ?_, ?_⟩
    · simp only [dat]
      rw [e]
      rfl
    · simp only [PyData.canLay0]
      exact h2
    · simp only [PyData.depth]
      omega
  | n + 1, .lst ts, h => by
    obtain ⟨ds, e, h2, l⟩ := sh_all (f := dat) (sh_dat n) ts (fun t ht => List.all_eq_true.mp (show ts.all (sh n) = true from h) t ht)
    refine ⟨.list ds, ?_, ?_, ?_⟩
    · simp only [dat]
      rw [e]
      rfl
    · simp only [PyData.canLay0]
      exact h2
    · simp only [PyData.depth]
      omega
  | 0, .tup _, h => by cases h
  | 0, .lst _, h => by cases h
  | 0, .scr _, h => by cases h
  | _ + 1, .scr _, h => by cases h
  | 0, .dct _ _, h => by cases h
  | _ + 1, .dct _ _, h => by cases h
  | 0, .ins _ _ _, h => by cases h
  | _ + 1, .ins _ _ _, h => by cases h
  | 0, .ty _, h => by cases h
  | _ + 1, .ty _, h => by cases h
  | 0, .fn _, h => by cases h
  | _ + 1, .fn _, h => by cases h
  | 0, .exc _ _ _ _, h => by cases h
  | _ + 1, .exc _ _ _ _, h => by cases h
theorem sh_shp {t : T} (h : sh 8 t = true) : shp t = true := by
  obtain ⟨d, e, h1, h2⟩ := sh_dat 8 t h
  unfold shp
  rw [e]
  show (d.canLay0 && decide (d.depth ≤ 64)) = true
  rw [Bool.and_eq_true]
  exact ⟨h1, decide_eq_true (by omega)⟩
theorem eqB_self {t : T} (h : sh 8 t = true) : eqB t t = true := by
  obtain ⟨d, e, h1, h2⟩ := sh_dat 8 t h
  unfold eqB
  rw [e]
  exact PySem.SeqAt.eqv_refl d h1
theorem eqT_self {t : T} (h : sh 8 t = true) : eqT t t = some (.bl true) := by
  unfold Tr.eqT
  rw [sh_shp h, eqB_self h]
  rfl
theorem neT_self {t : T} (h : sh 8 t = true) : neT t t = some (.bl false) := by
  unfold Tr.neT
  rw [sh_shp h, eqB_self h]
  rfl
theorem neT_some {t r : T} (h : sh 8 t = true) (h2 : sh 8 r = true) : neT t r = some (.bl (!eqB t r)) := by
  unfold Tr.neT
  rw [sh_shp h, sh_shp h2]
  rfl
theorem hp_dice : ∀ xs, preDice xs → xs.length = 2 ∧ w__law_dice (xs ++ List.replicate 2 .any) fun ts => ∃ a b c : Int, ts = [.int a, .int b, .int c] := by
  intro xs h
  obtain ⟨ns, s, rfl, hn, s0, s1⟩ := h
  refine ⟨rfl, ?_⟩
  have c1 : ∀ x : Int, wide 83 x = true := fun x => wideL (by decide)
  have c2 : ∀ x : Int, wide 1009 x = true := fun x => wideL (by decide)
  have c3 : ∀ x : Int, wide 53 x = true := fun x => wideL (by decide)
  have c4 : ∀ x : Int, wide x 97 = true := fun x => wideR (by decide)
  have k1 : powOk 10 58 = true := by decide +kernel
  have k2 : powOk 10 60 = true := by decide +kernel
  have k3 : powOk 10 16 = true := by decide +kernel
  obtain ⟨W, eW, hW⟩ : ∃ W : Int, mulT (.int 10000000000000000000000000000000000000000000000000000000000) (.int 1000000000000000000000000000000000000000000000000000000000000) = some (.int W) ∧ 0 < W := ⟨_, mulT_int.trans (if_pos (by decide +kernel)), by decide +kernel⟩
  have c5 : ∀ x : Int, modT (.int x) (.int W) = some (.int (x % W)) := fun x => mod_ok hW
  by_cases h : s < (ns.length : Int)
  · obtain ⟨v, hv⟩ : ∃ v : Int, atI (ns.map T.int) s = some (.int v) := by
      have hr : s.toNat < ns.length := by omega
      exact ⟨ns[s.toNat], atI_ok s0 (by rw [List.getElem?_map, List.getElem?_eq_getElem hr]; rfl)⟩
    simp [-Bool.exists_bool, -Bool.not_eq_eq_eq_not, w__law_dice, wrSeq, c1, c2, c3, c4, c5, k1, k2, k3, eW, h, hv]
  · simp [-Bool.exists_bool, -Bool.not_eq_eq_eq_not, w__law_dice, wrSeq, c1, c2, c3, c4, c5, k1, k2, k3, eW, h]
end




end My
namespace Tr
open PySem PySem.Spec PyProof.Rows L2 Tr
variable [Tabl]

open PySem PySem.Spec PyProof.Rows L2 Tr
variable [Tabl]

open PySem PySem.Spec PyProof.Rows L2 Tr
variable [Tabl]

open PySem PySem.Spec PyProof.Rows L2 Tr
variable [Tabl]

section
variable {sl : List Sl} {P : Sl → Prop}
open PySem PySem.Spec PyProof.Rows L2
@[simp] theorem wiStr_e {a : WE} {Q : List T → Prop} : wiStr a sl Q = a sl fun x => ∃ z, x = .val (.str z) ∧ Q (sgnT z) := rfl
@[simp] theorem lenT_str {x : Str} : lenT [.str x] = if few x.length = true then some (.int x.length) else none := rfl
@[simp] theorem ordT_str {x : Str} : ordT [.str x] = if x.length = 1 then some (.int (x.cps.getD 0 0 : Nat)) else none := rfl
end




end Tr
namespace My
open PySem PySem.Spec PyProof.Rows L2 Tr
variable [Tabl]

open PySem PySem.Spec PyProof.Rows L2 Tr
variable [Tabl]

open PySem PySem.Spec PyProof.Rows L2 Tr
variable [Tabl]

open PySem PySem.Spec PyProof.Rows L2 Tr
variable [Tabl]

open PySem PySem.Spec PyProof.Rows L2 Tr
section
variable {P : Sl → Prop} {x y : T} {k : Ks} {sl : List Sl}
/-- a comprehension over a list told by α -/
theorem collF {α : Type} (g f : α → T) {we : WE} {Q : List T → Prop} {i : Nat} : ∀ (as : List α) (acc : List T), (∀ a ∈ as, ∀ R : Sl → Prop, R (.val (f a)) → we (sl.set i (.val (g a))) R) → Q (acc ++ as.map f) → wColl (.name i) wYes we sl Q (as.map g) acc
  | [], acc, _, q => by
    rw [List.map_nil, List.append_nil] at q
    exact q
  | n :: r, acc, h, q => by
    refine ⟨_, rfl, ?_⟩
    show we (sl.set i (.val (g n))) fun y => ∃ u, y = .val u ∧ wColl (.name i) wYes we sl Q (r.map g) (acc ++ [u])
    refine h n List.mem_cons_self _ ⟨f n, rfl, collF g f r _ (fun m hm => h m (List.mem_cons_of_mem _ hm)) ?_⟩
    rw [List.append_assoc]
    exact q
theorem bl_map {α : Type} {as : List α} {f : α → Bool} : allT [.lst (as.map fun a => T.bl (f a))] = some (.bl (as.all f)) := by
  have : as.map (fun a => T.bl (f a)) = (as.map f).map T.bl := by rw [List.map_map]; rfl
  rw [this, allT_bls, allB]
def okC (c : Nat) : Bool := decide (32 ≤ c) && decide (c ≤ 126)
def okB (b : Str) : Bool := (decide (1 ≤ (b.length : Int)) && decide ((b.length : Int) ≤ 1000)) && b.cps.toList.all okC
def isBlock : T → Bool
  | .str z => okB z
  | _ => false
theorem sgn_len (z : Str) : (sgnT z).length = z.length := by
  unfold sgnT
  rw [List.length_map, Array.length_toList]
  rfl
abbrev sL (l : List Str) : List T := l.map T.str
def small (x : T) : Prop := plain x = true ∧ ∀ z, x = .str z → z.length ≤ 100000
/-! blocks on a disk -/
theorem okB_len {b : Str} (h : okB b = true) : 1 ≤ b.length ∧ b.length ≤ 1000 := by
  unfold okB at h
  rw [Bool.and_eq_true, Bool.and_eq_true] at h
  have h1 := of_decide_eq_true h.1.1
  have h2 := of_decide_eq_true h.1.2
  omega
def okL (l : List Str) : Prop := ∀ b ∈ l, okB b = true
theorem okL.small {l : List Str} (h : okL l) : ∀ t ∈ sL l, small t := fun t ht => by
  obtain ⟨b, hb, rfl⟩ := List.mem_map.mp ht
  exact ⟨rfl, fun z e => by cases e; have := (okB_len (h b hb)).2; omega⟩
theorem okL.all {l : List Str} (h : okL l) : (sL l).all isBlock = true := List.all_eq_true.mpr fun t ht => by
  obtain ⟨b, hb, rfl⟩ := List.mem_map.mp ht
  exact h b hb
theorem okL.one {b : Str} (h : okB b = true) : okL [b] := fun c hc => by rw [List.mem_singleton.mp hc]; exact h
theorem okL.nil : okL [] := fun b hb => by cases hb
/-- the product of the lengths and one -/
def numF (a : Int) (w : List Str) : Int := w.foldl (fun n b => n * ((b.length : Int) + 1)) a
abbrev num (w : List Str) : Int := numF 1 w
end


open PySem PySem.Spec PyProof.Rows L2 Tr
section
variable {P : Sl → Prop} {x y : T} {k : Ks} {sl : List Sl} {cN : Str → Addr} {s w s' w' : List Str} {b : Str}
/-! a disk -/
abbrev names : List Str := ["sure", "waiting", "blocks", "fall_number"]
abbrev dF (s w : List Str) : List T := [.tup (sL s), .tup (sL w), .tup (sL (s ++ w)), .int (num w)]
abbrev dsk (C : Addr) (s w : List Str) : T := .ins C names (dF s w)
structure Ok (s w : List Str) : Prop where
  os : okL s
  ow : okL w
  le : s.length + w.length ≤ 1000
/-! texts are equal -/
theorem eqT_of {t u : T} (h : sh 8 t = true) (h2 : sh 8 u = true) : eqT t u = some (.bl (eqB t u)) := by
  unfold Tr.eqT
  rw [sh_shp h, sh_shp h2]
  rfl
end


open PySem PySem.Spec PyProof.Rows L2 Tr
section
variable {P : Sl → Prop} {x y : T} {k : Ks} {sl : List Sl} {cN : Str → Addr} {s w s' w' : List Str} {b : Str}
/-! what a fall leaves -/
def leftF : List Str → List Int → List Str
  | b :: w, n :: ns => if 0 < n then cutS b none (some n) :: leftF w ns else leftF w ns
  | _, _ => []
def okK (ns : List Int) : Prop := ns.length ≤ 1000 ∧ ∀ n ∈ ns, 0 ≤ n ∧ n ≤ 1000
def isKept : T → Bool
  | .tup ts => ts.all fun t => isWithin t 0 1000
  | _ => false
/-! the law's own -/
def lB : WS := (wSeq (wAsg (wIfE (wB (wOp ltT (wVar 3) (wCB lenT (waCons (wVar 1) waNil)))) (wOp ixT (wVar 1) (wVar 3)) (wC (.int 0))) 5) (wIf (wB (wOp gtT (wVar 5) (wC (.int 0)))) (wApp 2 (wSl (wVar 4) woNone (woSome (wVar 5)))) wNext))
end


open PySem PySem.Spec PyProof.Rows L2 Tr SX
section
variable {P : Sl → Prop} {x y : T} {k : Ks} {sl : List Sl} {cN : Str → Addr} {s w s' w' : List Str} {b : Str}
theorem r_pick_lst {ts : List T} (h0 : 0 < ts.length) (h1 : ts.length ≤ 1000) (p : ∀ t ∈ ts, P (.val t)) : w__law_pick [.dice, .val (.lst ts)] P := by
  refine ⟨rfl, ?_⟩
  refine (show wRet _ _ _ from ⟨fun z => (nomatch z), fun z => (nomatch z), fun z => (nomatch z), _, _, rfl, lenT_lst, rfl, r__law_roll (n := (ts.length : Int)) (by omega) (log2s (by omega) (by omega)) fun r r0 r1 => ?_⟩)
  have hr : r.toNat < ts.length := by omega
  exact ⟨_, _, _, rfl, rfl, atI_ok r0 (List.getElem?_eq_getElem hr), p _ (List.getElem_mem hr)⟩
/-- a comprehension whose values are known in part -/
theorem collE {we : WE} {Q : List T → Prop} {i : Nat} (G : T → Prop) : ∀ (ts acc : List T), (∀ t ∈ ts, ∀ R : Sl → Prop, (∀ u, G u → R (.val u)) → we (sl.set i (.val t)) R) → (∀ us : List T, us.length = ts.length → (∀ u ∈ us, G u) → Q (acc ++ us)) → wColl (.name i) wYes we sl Q ts acc
  | [], acc, _, q => by
    have := q [] rfl (fun u hu => by cases hu)
    rw [List.append_nil] at this
    exact this
  | t :: r, acc, h, q => by
    refine ⟨_, rfl, ?_⟩
    show we (sl.set i (.val t)) fun y => ∃ u, y = .val u ∧ wColl (.name i) wYes we sl Q r (acc ++ [u])
    refine h t List.mem_cons_self _ fun u hu => ⟨u, rfl, collE G r _ (fun m hm => h m (List.mem_cons_of_mem _ hm)) fun us hl hg => ?_⟩
    rw [List.append_assoc]
    exact q (u :: us) (by rw [List.length_cons, List.length_cons, hl]) fun v hv => by
      rcases List.mem_cons.mp hv with z | z
      · rw [z]; exact hu
      · exact hg v z
def okS (t : T) : Prop := ∃ c, t = .str (S [c]) ∧ okC c = true
end


open PySem PySem.Spec PyProof.Rows L2 Tr SX
section
variable {P : Sl → Prop} {x y : T} {k : Ks} {sl : List Sl} {cN : Str → Addr} {s w s' w' : List Str} {b : Str}
def kpE : WE := (wCall w__law_pick [] (waCons (wVar 0) (waCons (wL (wLst (waCons (wC (.int 0)) (waCons (wC (.int 0)) (waCons (wC (.int 1)) (waCons (wCB lenT (waCons (wVar 3) waNil)) (waCons (wCB lenT (waCons (wVar 3) waNil)) (waCons (wCB max2T (waCons (wC (.int 0)) (waCons (wOp subT (wCB lenT (waCons (wVar 3) waNil)) (wC (.int 1))) waNil))) (waCons (wC (.int 1000)) (waCons (wCall w__law_roll [] (waCons (wVar 0) (waCons (wOp addT (wCB lenT (waCons (wVar 3) waNil)) (wC (.int 1))) waNil))) waNil)))))))))) waNil)))
end


open PySem PySem.Spec PyProof.Rows L2 Tr SX
section
variable {P : Sl → Prop} {x y : T} {k : Ks} {sl : List Sl} {cN : Str → Addr} {s w s' w' : List Str} {b : Str}
/-! the text -/
def txt (a b : Int) : Str := ((((("disk of " : Str) ++ (toString a : Str)) ++ (" blocks, " : Str)) ++ (toString b : Str)) ++ (" waiting" : Str))
theorem l1 : ("disk of " : Str).length ≤ 20 := by decide +kernel
theorem l2 : (" blocks, " : Str).length ≤ 20 := by decide +kernel
abbrev stT (s w : List Str) : T := .tup [.lst (sL s), .lst (sL w)]
end


open PySem PySem.Spec PyProof.Rows L2 Tr SX
section
variable {P : Sl → Prop} {x y : T} {k : Ks} {sl : List Sl} {cN : Str → Addr} {s w s' w' e : List Str} {b : Str}
/-! values near -/
def sgs (b : Str) : List T := [.str b, .str (b ++ ("\n" : Str)), .str "", .str " ", .str "~", .str (cutS b none (some 0)), .non, .int 5, .tup [.str "a"], .str (Txt.mul ("a" : Str) 1000), .str (Txt.mul ("a" : Str) 1001), .lst [.str "a"], .dct [] [], .bl true]
def sgd : List T := [.bl true, .bl false, .bl false, .bl true, .bl true, .bl false, .bl false, .bl false, .bl false, .bl true, .bl false, .bl false, .bl false, .bl false]
def kps : List T := [.tup [], .tup [.int 0], .tup [.int 1000, .int 0, .int 5], .tup [.int 1001], .tup [.int (-1)], .tup [.bl true], .lst [.int 0], .non, .tup [.int 0, .str "1"], .int 0, .tup (List.replicate 300 [.int 0]).flatten, .tup [.non]]
def kpd : List T := [.bl true, .bl true, .bl true, .bl false, .bl false, .bl false, .bl false, .bl false, .bl false, .bl false, .bl true, .bl false]
end


open PySem PySem.Spec PyProof.Rows L2 Tr

open PySem PySem.Spec PyProof.Rows L2 Tr
section
variable {P : Sl → Prop} {x y : T} {lo hi s m u : Int}
end
section
variable {P : Sl → Prop} {x y : T} {lo hi s u : Int} {m : Nat}
end





end My
namespace Tr
open PySem PySem.Spec PyProof.Rows L2 Tr
variable [Tabl]

open PySem PySem.Spec PyProof.Rows L2 Tr
variable [Tabl]

open PySem PySem.Spec PyProof.Rows L2 Tr
variable [Tabl]

open PySem PySem.Spec PyProof.Rows L2 Tr
variable [Tabl]

open PySem PySem.Spec PyProof.Rows L2 Tr

section
variable {sl : List Sl} {P : Sl → Prop}
open PySem PySem.Spec PyProof.Rows L2
end





end Tr
namespace My
open PySem PySem.Spec PyProof.Rows L2 Tr
variable [Tabl]

open PySem PySem.Spec PyProof.Rows L2 Tr
variable [Tabl]

open PySem PySem.Spec PyProof.Rows L2 Tr
variable [Tabl]

open PySem PySem.Spec PyProof.Rows L2 Tr
variable [Tabl]

open PySem PySem.Spec PyProof.Rows L2 Tr

open PySem PySem.Spec PyProof.Rows L2 Tr
section
variable {P : Sl → Prop} {x y : T} {k : Ks} {sl : List Sl}
end


open PySem PySem.Spec PyProof.Rows L2 Tr
section
variable {P : Sl → Prop} {x y : T} {k : Ks} {sl : List Sl} {cN : Str → Addr} {s w s' w' : List Str} {b : Str}
end


open PySem PySem.Spec PyProof.Rows L2 Tr
section
variable {P : Sl → Prop} {x y : T} {k : Ks} {sl : List Sl} {cN : Str → Addr} {s w s' w' : List Str} {b : Str}
end


open PySem PySem.Spec PyProof.Rows L2 Tr SX
section
variable {P : Sl → Prop} {x y : T} {k : Ks} {sl : List Sl} {cN : Str → Addr} {s w s' w' : List Str} {b : Str}
end


open PySem PySem.Spec PyProof.Rows L2 Tr SX
section
variable {P : Sl → Prop} {x y : T} {k : Ks} {sl : List Sl} {cN : Str → Addr} {s w s' w' : List Str} {b : Str}
end


open PySem PySem.Spec PyProof.Rows L2 Tr SX
section
variable {P : Sl → Prop} {x y : T} {k : Ks} {sl : List Sl} {cN : Str → Addr} {s w s' w' : List Str} {b : Str}
/-! beginnings -/
def sw (d b : Str) : Bool := decide (cutS d none (some (b.length : Int)) = b)
/-! the greedy choice -/
def kept : List Str → List Str → Option (List Int)
  | _, [] => some []
  | [], _ :: _ => none
  | d :: w, b :: r => if sw d b = true then (kept w r).map ((b.length : Int) :: ·) else (kept w (b :: r)).map ((0 : Int) :: ·)
def g (w r : List Str) : Bool := (kept w r).isSome
theorem g_cons {d b : Str} {w r : List Str} : g (d :: w) (b :: r) = if sw d b = true then g w r else g w (b :: r) := by
  unfold g
  rw [kept]
  by_cases h : sw d b = true
  · rw [if_pos h, if_pos h, Option.isSome_map]
  · rw [if_neg h, if_neg h, Option.isSome_map]
theorem g_len : ∀ (w r : List Str), g w r = true → r.length ≤ w.length
  | _, [], _ => Nat.zero_le _
  | [], _ :: _, h => by cases h
  | d :: w, b :: r, h => by
    rw [g_cons] at h
    by_cases e : sw d b = true
    · rw [if_pos e] at h
      have := g_len w r h
      rw [List.length_cons, List.length_cons]
      omega
    · rw [if_neg e] at h
      have := g_len w (b :: r) h
      rw [List.length_cons] at this
      rw [List.length_cons, List.length_cons]
      omega
/-! states -/
abbrev St2 := List Str × List Str
def can (p : St2) (r : List Str) : Bool := decide (r.take p.1.length = p.1) && g p.2 (r.drop p.1.length)
def stepF (p : St2) : Option Str → St2
  | none => (p.1 ++ p.2, [])
  | some b => (p.1, p.2 ++ [b])
def scan (p : St2) : List (Option Str) → List St2
  | [] => [p]
  | o :: r => p :: scan (stepF p o) r
def dead (p : St2) (r : List Str) : Prop := r.take p.1.length ≠ p.1
/-- the moments, from k on -/
def fnd (row : List Str) : Nat → List St2 → List Nat
  | _, [] => []
  | k, p :: r => if can p row = true then k :: fnd row (k + 1) r else fnd row (k + 1) r
end


open PySem PySem.Spec PyProof.Rows L2 Tr SX
section
variable {P : Sl → Prop} {x y : T} {k : Ks} {sl : List Sl} {cN : Str → Addr} {s w s' w' : List Str} {b : Str}
/-! steps -/
abbrev stp : Option Str → T
  | none => .tup [.str "sync"]
  | some b => .tup [.str "put", .str b]
def okO (o : Option Str) : Prop := ∀ b, o = some b → okB b = true
/-! the disks -/
abbrev dP (C : Addr) (p : St2) : T := dsk C p.1 p.2
theorem at_last {α : Type} (xs : List α) (x : α) : atI (xs ++ [x]) (-1) = some x := by
  unfold atI ixN
  rw [if_neg (by decide), if_pos (by rw [List.length_append]; show -((xs.length + 1 : Nat) : Int) ≤ -1; omega)]
  show (xs ++ [x])[(((xs ++ [x]).length : Int) + -1).toNat]? = _
  rw [show (((xs ++ [x]).length : Int) + -1).toNat = xs.length by rw [List.length_append]; show (((xs.length + 1 : Nat) : Int) + -1).toNat = _; omega]
  rw [List.getElem?_append_right (Nat.le_refl _), Nat.sub_self]
  rfl
theorem ix_last {xs : List T} {x : T} : ixT (.lst (xs ++ [x])) (.int (-1)) = some x := at_last xs x
structure OkS (p : St2) (m : Nat) : Prop where
  os : okL p.1
  ow : okL p.2
  le : p.1.length + p.2.length ≤ m
theorem OkS.ok {p : St2} {m : Nat} (h : OkS p m) (hm : m ≤ 1000) : Ok p.1 p.2 := ⟨h.os, h.ow, by have := h.le; omega⟩
abbrev p0 : St2 := ([], [])
/-! the greedy choice, in the program -/
abbrev iL (ns : List Int) : List T := ns.map T.int
/-- what goes by until a block can be a beginning -/
def skip (b : Str) : List Str → List Str
  | [] => []
  | d :: w => if sw d b = true then d :: w else skip b w
theorem cut_take {α : Type} {xs : List α} {n : Nat} : cutT xs none (some (n : Int)) = xs.take n := by
  unfold cutT
  have e : HT.sIx xs.length xs.length (some (n : Int)) = min n xs.length := by
    show (if (n : Int) < 0 then ((n : Int) + (xs.length : Int)).toNat else min (n : Int).toNat xs.length) = _
    rw [if_neg (by omega)]
    rfl
  rw [e, HT.sIx_none, Nat.sub_zero, List.drop_zero]
  exact (List.take_eq_take_min ..).symm
theorem cut_drop {α : Type} {xs : List α} {n : Nat} : cutT xs (some (n : Int)) none = xs.drop n := by
  unfold cutT
  have e : HT.sIx xs.length 0 (some (n : Int)) = min n xs.length := by
    show (if (n : Int) < 0 then ((n : Int) + (xs.length : Int)).toNat else min (n : Int).toNat xs.length) = _
    rw [if_neg (by omega)]
    rfl
  rw [e, HT.sIx_none]
  rcases Nat.le_total n xs.length with h | h
  · rw [Nat.min_eq_left h]
    exact List.take_of_length_le (by rw [List.length_drop]; omega)
  · rw [Nat.min_eq_right h, Nat.sub_self, List.take_zero, List.drop_of_length_le h]
theorem okL.take {l : List Str} (h : okL l) (n : Nat) : okL (l.take n) := fun b hb => h b (List.mem_of_mem_take hb)
theorem okL.drop {l : List Str} (h : okL l) (n : Nat) : okL (l.drop n) := fun b hb => h b (List.mem_of_mem_drop hb)
def kfC (cN : Str → Addr) : WT := (wAnd (wB (wOp ltT (wCB lenT (waCons (wVar 3) waNil)) (wCB lenT (waCons (wFld (cN "Disk") "waiting" (wVar 0)) waNil)))) (wNot (wTru (wSw (wOp ixT (wFld (cN "Disk") "waiting" (wVar 0)) (wCB lenT (waCons (wVar 3) waNil))) (wVar 4)))))
def keptT (s w r : List Str) : T := if r.take s.length = s then (match kept w (r.drop s.length) with
    | some ns => .tup (iL ns)
    | none => .non) else .non
end


open PySem PySem.Spec PyProof.Rows L2 Tr SX
section
variable {P : Sl → Prop} {x y : T} {k : Ks} {sl : List Sl} {cN : Str → Addr} {s w s' w' : List Str} {b : Str}
/-- the places at which a test holds -/
def idx {α : Type} (v : α → Bool) : Nat → List α → List Nat
  | _, [] => []
  | k, a :: r => if v a = true then k :: idx v (k + 1) r else idx v (k + 1) r
abbrev nL (ns : List Nat) : List T := ns.map fun n => T.int (n : Nat)
/-- what is told of moments -/
def toldT (ns : List Nat) : T := match ns with
  | [] => .non
  | a :: r => .tup [.int (a : Nat), .int ((a :: r).getLast (List.cons_ne_nil _ _) : Nat)]
structure OkSt (st : List (Option Str)) : Prop where
  le : st.length ≤ 300
  ok : ∀ o ∈ st, okO o
end


open PySem PySem.Spec PyProof.Rows L2 Tr SX
section
variable {P : Sl → Prop} {x y : T} {k : Ks} {sl : List Sl} {cN : Str → Addr} {s w s' w' : List Str} {b : Str}
abbrev stP (p : St2) : T := stT p.1 p.2
/-! lists of whole numbers, lists of texts, compared -/
end


open PySem PySem.Spec PyProof.Rows L2 Tr SX
section
variable {P : Sl → Prop} {x y : T} {k : Ks} {sl : List Sl} {cN : Str → Addr} {s w s' w' : List Str} {b : Str}
/-- a comprehension with a test, over a list told by α -/
theorem coll_fm {α : Type} (g f : α → T) (v : α → Bool) {wt : WT} {we : WE} {Q : List T → Prop} {i : Nat} : ∀ (as : List α) (acc : List T), (∀ a ∈ as, ∀ R : Bool → Prop, R (v a) → wt (sl.set i (.val (g a))) R) → (∀ a ∈ as, ∀ R : Sl → Prop, R (.val (f a)) → we (sl.set i (.val (g a))) R) → Q (acc ++ (as.filter v).map f) → wColl (.name i) wt we sl Q (as.map g) acc
  | [], acc, _, _, q => by
    rw [List.filter_nil, List.map_nil, List.append_nil] at q
    exact q
  | a :: r, acc, h, h2, q => by
    refine ⟨_, rfl, ?_⟩
    refine h a List.mem_cons_self _ ?_
    cases e : v a with
    | false =>
      rw [List.filter_cons, e] at q
      exact coll_fm g f v r _ (fun c hc => h c (List.mem_cons_of_mem _ hc)) (fun c hc => h2 c (List.mem_cons_of_mem _ hc)) q
    | true =>
      rw [List.filter_cons, e, if_pos rfl] at q
      show we (sl.set i (.val (g a))) fun y => ∃ u, y = .val u ∧ wColl (.name i) wt we sl Q (r.map g) (acc ++ [u])
      refine h2 a List.mem_cons_self _ ⟨f a, rfl, coll_fm g f v r _ (fun c hc => h c (List.mem_cons_of_mem _ hc)) (fun c hc => h2 c (List.mem_cons_of_mem _ hc)) ?_⟩
      rw [List.append_assoc]
      exact q
/-- the numbers of blocks that can be made of those so far -/
structure Rch (rest v : List Str) (ms : List Int) : Prop where
  asc : ms.Pairwise (· < ·)
  mem : ∀ k : Int, k ∈ ms ↔ 0 ≤ k ∧ k ≤ (rest.length : Int) ∧ g v (rest.take k.toNat) = true
theorem Rch.le {rest v : List Str} {ms : List Int} (h : Rch rest v ms) {m : Int} (hm : m ∈ ms) : 0 ≤ m ∧ m ≤ (v.length : Int) := by
  obtain ⟨h1, h2, h3⟩ := (h.mem m).mp hm
  have := g_len _ _ h3
  rw [List.length_take] at this
  omega
theorem Rch.nil {rest : List Str} : Rch rest [] [0] := ⟨List.pairwise_singleton _ _, fun k => by
  rw [List.mem_singleton]
  constructor
  · rintro rfl
    exact ⟨by decide, by omega, rfl⟩
  · rintro ⟨h1, h2, h3⟩
    have := g_len _ _ h3
    rw [List.length_take, List.length_nil] at this
    omega⟩
def nxt (rest : List Str) (d : Str) (m : Int) : Bool := decide (m < (rest.length : Int)) && (match rest[m.toNat]? with
  | some c => sw d c
  | none => false)
end


open PySem PySem.Spec PyProof.Rows L2 Tr SX
section
variable {P : Sl → Prop} {x y : T} {k : Ks} {sl : List Sl} {cN : Str → Addr} {s w s' w' : List Str} {b : Str}
/-! what is told of the moments, by the law -/
end


open PySem PySem.Spec PyProof.Rows L2 Tr SX
section
variable {P : Sl → Prop} {x y : T} {k : Ks} {sl : List Sl} {cN : Str → Addr} {s w s' w' : List Str} {b : Str}
def oddT : List T := [.tup [.str "sync", .int 0], .tup [.str "put"], .tup [.str "put", .str ""], .tup [.str "put", .str "a\n"], .tup [.str "put", .int 5], .str "sync", .lst [.str "sync"], .tup [.str "puts", .str "a"], .tup [], .non, .tup [.str "put", .str (Txt.mul "a" 1001)]]
end


open PySem PySem.Spec PyProof.Rows L2 Tr SX
section
variable {P : Sl → Prop} {x y : T} {k : Ks} {sl : List Sl} {cN : Str → Addr} {s w s' w' : List Str} {b : Str}
def st0 : List (Option Str) := [some "ab", none, some "cd", some "e", none]
def rows0 : List (List Str) := [["ab", "e"], ["ab"], ["a"], ["b"], ["ab", "cd", "e"], []]
end



open PySem PySem.Spec PyProof.Rows L2 Tr SX
section
variable {P : Sl → Prop} {x y : T} {k : Ks} {sl : List Sl} {cN : Str → Addr} {s w s' w' : List Str} {b : Str}
/-! what a fall leaves can be told -/
/-! values near a told fall -/
def flatV (t : T) : Bool := match t with
  | .int _ => true
  | .bl _ => true
  | .non => true
  | .str z => z.cps.all (· < 0x110000)
  | _ => false
structure Fn (v : T) : Prop where
  pl : plain v = true
  ns : ∀ ts, v ≠ .scr ts
  few : ∀ ts, v = .tup ts → ts.length ≤ 1000 ∧ ∀ t ∈ ts, flatV t = true
def intsF : List T → List Int
  | [] => []
  | .int i :: r => i :: intsF r
  | _ :: r => intsF r
def in1000 (t : T) : Bool := isWithin t 0 1000
def leaveV (s w row : List Str) (v : T) : Bool := isKept v && (match v with
  | .tup ts => decide (s ++ leftF w (intsF ts) = row)
  | _ => false)
end


open PySem PySem.Spec PyProof.Rows L2 Tr SX
section
variable {P : Sl → Prop} {x y : T} {k : Ks} {sl : List Sl} {cN : Str → Addr} {s w s' w' : List Str} {b : Str}
def badV (t : T) : Bool := !in1000 t
end


open PySem PySem.Spec PyProof.Rows L2 Tr

open PySem PySem.Spec PyProof.Rows L2 Tr
section
variable {P : Sl → Prop} {x y : T} {lo hi s m u : Int}
end
section
variable {P : Sl → Prop} {x y : T} {lo hi s u : Int} {m : Nat}
end





end My
namespace Tr
open PySem PySem.Spec PyProof.Rows L2 Tr
variable [Tabl]

open PySem PySem.Spec PyProof.Rows L2 Tr
variable [Tabl]

open PySem PySem.Spec PyProof.Rows L2 Tr
variable [Tabl]

open PySem PySem.Spec PyProof.Rows L2 Tr
variable [Tabl]

open PySem PySem.Spec PyProof.Rows L2 Tr

section
variable {sl : List Sl} {P : Sl → Prop}
open PySem PySem.Spec PyProof.Rows L2
end





end Tr
namespace My
open PySem PySem.Spec PyProof.Rows L2 Tr
variable [Tabl]

open PySem PySem.Spec PyProof.Rows L2 Tr
variable [Tabl]

open PySem PySem.Spec PyProof.Rows L2 Tr
variable [Tabl]

open PySem PySem.Spec PyProof.Rows L2 Tr
variable [Tabl]

open PySem PySem.Spec PyProof.Rows L2 Tr

open PySem PySem.Spec PyProof.Rows L2 Tr
section
variable {P : Sl → Prop} {x y : T} {k : Ks} {sl : List Sl}
end


open PySem PySem.Spec PyProof.Rows L2 Tr
section
variable {P : Sl → Prop} {x y : T} {k : Ks} {sl : List Sl} {cN : Str → Addr} {s w s' w' : List Str} {b : Str}
end


open PySem PySem.Spec PyProof.Rows L2 Tr
section
variable {P : Sl → Prop} {x y : T} {k : Ks} {sl : List Sl} {cN : Str → Addr} {s w s' w' : List Str} {b : Str}
end


open PySem PySem.Spec PyProof.Rows L2 Tr SX
section
variable {P : Sl → Prop} {x y : T} {k : Ks} {sl : List Sl} {cN : Str → Addr} {s w s' w' : List Str} {b : Str}
end


open PySem PySem.Spec PyProof.Rows L2 Tr SX
section
variable {P : Sl → Prop} {x y : T} {k : Ks} {sl : List Sl} {cN : Str → Addr} {s w s' w' : List Str} {b : Str}
end



open PySem PySem.Spec PyProof.Rows L2 Tr SX
section
variable {P : Sl → Prop} {x y : T} {k : Ks} {sl : List Sl} {cN : Str → Addr} {s w s' w' : List Str} {b : Str}
end


open PySem PySem.Spec PyProof.Rows L2 Tr SX
section
variable {P : Sl → Prop} {x y : T} {k : Ks} {sl : List Sl} {cN : Str → Addr} {s w s' w' : List Str} {b : Str}
end


open PySem PySem.Spec PyProof.Rows L2 Tr SX
section
variable {P : Sl → Prop} {x y : T} {k : Ks} {sl : List Sl} {cN : Str → Addr} {s w s' w' : List Str} {b : Str}
end


open PySem PySem.Spec PyProof.Rows L2 Tr SX
section
variable {P : Sl → Prop} {x y : T} {k : Ks} {sl : List Sl} {cN : Str → Addr} {s w s' w' : List Str} {b : Str}
end


open PySem PySem.Spec PyProof.Rows L2 Tr SX
section
variable {P : Sl → Prop} {x y : T} {k : Ks} {sl : List Sl} {cN : Str → Addr} {s w s' w' : List Str} {b : Str}
end


open PySem PySem.Spec PyProof.Rows L2 Tr SX
section
variable {P : Sl → Prop} {x y : T} {k : Ks} {sl : List Sl} {cN : Str → Addr} {s w s' w' : List Str} {b : Str}
end


open PySem PySem.Spec PyProof.Rows L2 Tr SX
section
variable {P : Sl → Prop} {x y : T} {k : Ks} {sl : List Sl} {cN : Str → Addr} {s w s' w' : List Str} {b : Str}
end



open PySem PySem.Spec PyProof.Rows L2 Tr
variable [Tabl]
section
variable {P : Sl → Prop} {x y : T} {k : Ks} {sl : List Sl} {cN : Str → Addr}
theorem seqIx {n m : Nat} (h : n < m) : seqIndex? (n : Int) m = some n := by
  have h1 : ¬ ((n : Int) < 0) := by omega
  have h2 : (n : Int) < (m : Int) := by omega
  unfold seqIndex?
  simp [h1, h2]
theorem erase_map {α β : Type} (f : α → β) : ∀ (L : List α) (c : Nat), (L.map f).eraseIdx c = (L.eraseIdx c).map f
  | [], _ => rfl
  | a :: L, 0 => rfl
  | a :: L, c + 1 => congrArg (f a :: ·) (erase_map f L c)
theorem erase_perm {α : Type} : ∀ (L : List α) (c : Nat) (h : c < L.length), (L[c] :: L.eraseIdx c).Perm L
  | a :: L, 0, _ => .refl _
  | a :: L, c + 1, h => (List.Perm.swap ..).trans ((erase_perm L c (by simpa using h)).cons a)
theorem shuf_loop {α : Type} (f : α → T) {as : List α} {a1 : Sl} {l l' : Addr} (hl : as.length ≤ 1000) {k : Ks} (p : ∀ (bs : List α) (ts : List T), bs.Perm as → k.nx [.dice, a1, .own l ts, .own l' (bs.map f)]) :
    ∀ (n : Nat) (L F : List α), L.length < n → (F ++ L).Perm as → wLoop (wB (wOp neE (wVar 2) (wL (wLst waNil)))) (wAppPop 3 2 (wCall w__law_roll [] (waCons (wVar 0) (waCons (wCB lenT (waCons (wVar 2) waNil)) waNil)))) k n [.dice, a1, .own l (L.map f), .own l' (F.map f)]
  | 0, L, F, h, _ => absurd h (Nat.not_lt_zero _)
  | n + 1, L, F, h, hp => by
    have hlen : F.length + L.length = as.length := by rw [← List.length_append]; exact hp.length_eq
    refine x_loop ?_
    (repeat left)
    cases L with
    | nil =>
      rw [List.append_nil] at hp
      (repeat left)
      exact p F _ hp
    | cons a L =>
      rw [List.length_cons] at h hlen
      rw [show (List.map f (a :: L)).isEmpty = false from rfl]
      (repeat left)
      refine x_appPop rfl rfl (by decide) (by rw [List.length_map]; omega) (by rw [List.length_map, List.length_cons]; omega) ?_
      (repeat left)
      rw [List.length_map]
      refine r__law_roll (n := ((a :: L).length : Nat)) (by rw [List.length_cons]; omega) (log2s (by rw [List.length_cons]; omega) (by rw [List.length_cons]; omega)) fun r r0 r1 => ?_
      obtain ⟨c, rfl⟩ := Int.eq_ofNat_of_zero_le r0
      have hc : c < (a :: L).length := by omega
      refine ⟨c, c, f (a :: L)[c], rfl, seqIx hc, by rw [List.getElem?_map, List.getElem?_eq_getElem hc]; rfl, ?_⟩
      have e1 : ((a :: L).map f).eraseIdx c = ((a :: L).eraseIdx c).map f := erase_map f _ c
      have e2 : F.map f ++ [f (a :: L)[c]] = (F ++ [(a :: L)[c]]).map f := by rw [List.map_append]; rfl
      rw [e1, e2]
      refine shuf_loop f hl p n _ _ ?_ ?_
      · rw [List.length_eraseIdx_of_lt hc, List.length_cons]; omega
      · rw [List.append_assoc]
        exact ((erase_perm _ c hc).append_left F).trans hp
theorem r__law_shuffled {α : Type} (f : α → T) {as : List α} (hl : as.length ≤ 1000) (p : ∀ bs : List α, bs.Perm as → P (.val (.lst (bs.map f)))) : w__law_shuffled [.dice, .val (.lst (as.map f))] P := by
  refine st__law_shuffled ?_
  (repeat left)
  refine ⟨as.length + 1, shuf_loop f hl (fun bs ts hp => ?_) _ as [] (Nat.lt_succ_self _) (by rw [List.nil_append])⟩
  (repeat left)
  exact p bs hp
end


open PySem PySem.Spec PyProof.Rows L2 Tr
variable [Tabl]
section
variable {P : Sl → Prop} {x : T} {cN : Str → Addr}
def fl : T → Bool
  | .ins _ _ _ => false
  | .ty _ => false
  | .fn _ => false
  | .exc _ _ _ _ => false
  | .scr _ => false
  | _ => true
theorem fl_plain (h : fl x = true) : plain x = true := by cases x <;> first | rfl | cases h
def wh (x : T) (lo hi : Int) : Bool := match x with
  | .int i => decide (lo ≤ i) && decide (i ≤ hi)
  | _ => false
theorem B_eq {b c : Bool} (p : P (B b)) (e : b = c) : P (B c) := e ▸ p
theorem within_wh {lo hi : Int} (h0 : -999999999999999999999999999999999999999999999999999999999999 ≤ lo) (h1 : hi ≤ 999999999999999999999999999999999999999999999999999999999999) : isWithin x lo hi = wh x lo hi := by
  cases x <;> try rfl
  case int i =>
    show ((_ && _) && (_ && _)) = (_ && _)
    rw [Bool.eq_iff_iff]
    simp only [Bool.and_eq_true, decide_eq_true_eq]
    omega
theorem r_is_wh {lo hi : Int} (h0 : -999999999999999999999999999999999999999999999999999999999999 ≤ lo) (h1 : hi ≤ 999999999999999999999999999999999999999999999999999999999999) (h : fl x = true) (p : P (B (wh x lo hi))) : w_is_within [.val x, .val (.int lo), .val (.int hi)] P :=
  r_is_within (fl_plain h) (B_eq p (within_wh h0 h1).symm)
theorem r_is_value (h : fl x = true) (p : P (B (wh x (-999999999999) 999999999999))) : w_is_value [.val x] P := by
  refine st_is_value ?_
  (repeat left)
  refine r_is_wh (by decide) (by decide) h ?_
  (repeat left)
  exact p
def valB (x : T) : Bool := match x with
  | .non => true
  | _ => wh x (-999999999999) 999999999999
theorem r_is_value_or_none (h : fl x = true) (p : P (B (valB x))) : w_is_value_or_none [.val x] P := by
  refine st_is_value_or_none ?_
  cases x <;> first | (cases h; done) | skip
  case non => (repeat left); exact p
  all_goals (repeat left)
  all_goals refine r_is_value h ?_
  all_goals (repeat left)
  all_goals exact p
/-! keys -/
def okKey (z : Str) : Bool := (decide (1 ≤ (z.length : Int)) && decide ((z.length : Int) ≤ 8)) && z.cps.toList.all fun c => decide (c ∈ ("abcdefghijklmnopqrstuvwxyz" : Str).cps.toList)
def keyB (x : T) : Bool := match x with
  | .str z => okKey z
  | _ => false
def smallS (x : T) : Prop := ∀ z, x = .str z → z.length ≤ 1000
theorem keyB_no {z : Str} (h : ¬ ((1 : Int) ≤ (z.length : Int) ∧ (z.length : Int) ≤ 8)) : keyB (.str z) = false := by
  show (_ && _) = false
  rw [Bool.and_eq_false_iff]
  left
  rw [Bool.and_eq_false_iff, decide_eq_false_iff_not, decide_eq_false_iff_not]
  omega
theorem keyB_yes {z : Str} (h1 : (1 : Int) ≤ (z.length : Int)) (h2 : (z.length : Int) ≤ 8) : keyB (.str z) = z.cps.toList.all fun c => decide (c ∈ ("abcdefghijklmnopqrstuvwxyz" : Str).cps.toList) := by
  show (_ && _) = _
  rw [decide_eq_true h1, decide_eq_true h2, Bool.true_and, Bool.true_and]
theorem r_is_key (h : fl x = true) (hs : smallS x) (p : P (B (keyB x))) : w_is_key [.val x] P := by
  refine st_is_key ?_
  cases x <;> first | (cases h; done) | skip
  case str z =>
    have hz := hs z rfl
    (repeat left)
    refine x_ifc (fun h1 => ?_) (fun h1 => ?_)
    · (repeat left)
      refine x_ifc (fun h2 => ?_) (fun h2 => ?_)
      · (repeat left)
        refine ⟨by rw [sgn_len]; omega, ?_⟩
        refine collF (fun c => T.str ⟨#[c]⟩) (fun c => T.bl (decide (c ∈ ("abcdefghijklmnopqrstuvwxyz" : Str).cps.toList))) z.cps.toList [] (fun c hc R hR => ?_) ?_
        · exact ⟨fun z => (nomatch z), _, _, _, rfl, rfl, rfl, hR⟩
        · refine ⟨_, _, rfl, bl_map, ?_⟩
          exact B_eq p (keyB_yes h1 h2)
      · (repeat left)
        exact B_eq p (keyB_no fun z => h2 z.2)
    · (repeat left)
      exact B_eq p (keyB_no fun z => h1 z.1)
  all_goals (repeat left)
  all_goals exact p
end


open PySem PySem.Spec PyProof.Rows L2 Tr
variable [Tabl]
section
variable {P : Sl → Prop} {x : T} {cN : Str → Addr}
def fit1 (x : T) : Prop := fl x = true ∧ smallS x
def setB (x : T) : Bool := match x with
  | .tup [a, b] => keyB a && valB b
  | _ => false
def fitS (x : T) : Prop := fl x = true ∧ ∀ ts, x = .tup ts → ts.length ≤ 1000 ∧ ∀ t ∈ ts, fit1 t
theorem r__is_setting (h : fitS x) (p : P (B (setB x))) : w__is_setting [.val x] P := by
  refine st__is_setting ?_
  obtain ⟨hf, hs⟩ := h
  cases x <;> first | (cases hf; done) | skip
  case tup ts =>
    obtain ⟨hl, ht⟩ := hs ts rfl
    match ts, hl, ht, p with
    | [], _, _, p => (repeat left); exact p
    | [a], _, _, p => (repeat left); exact p
    | [a, b], _, ht, p =>
      have ha := ht a (List.mem_cons_self ..)
      have hb := ht b (List.mem_cons_of_mem _ (List.mem_cons_self ..))
      (repeat left)
      refine r_is_key ha.1 ha.2 ?_
      (repeat left)
      refine x_ifb (fun g => ?_) (fun g => ?_)
      · (repeat left)
        refine r_is_value_or_none hb.1 ?_
        (repeat left)
        exact B_eq p (by show (keyB a && valB b) = valB b; rw [g, Bool.true_and])
      · (repeat left)
        exact B_eq p (by show (keyB a && valB b) = false; rw [g, Bool.false_and])
    | a :: b :: c :: r, hl, _, p =>
      (repeat left)
      exact p
  all_goals (repeat left)
  all_goals exact p
/-! deeds -/
abbrev stg (p : Str × T) : T := .tup [.str p.1, p.2]
def asc (ks : List Str) : Bool := (List.zipWith (fun x y => decide (x.cps.toList < y.cps.toList)) ks ks.tail).all id
def keyOf (t : T) : Str := match t with
  | .tup (.str k :: _) => k
  | _ => ""
def deedB (x : T) : Bool := match x with
  | .tup ts => (decide (1 ≤ ts.length) && decide (ts.length ≤ 6)) && (ts.all setB && asc (ts.map keyOf))
  | _ => false
def fitD (x : T) : Prop := fl x = true ∧ ∀ ts, x = .tup ts → ts.length ≤ 1000 ∧ ∀ t ∈ ts, fitS t
theorem set_form {t : T} (h : setB t = true) : ∃ p : Str × T, t = stg p ∧ okKey p.1 = true ∧ valB p.2 = true := by
  unfold setB at h
  split at h
  · rename_i a b
    rw [Bool.and_eq_true] at h
    cases a <;> first | (cases h.1; done) | skip
    case str k => exact ⟨(k, b), rfl, h.1, h.2⟩
  · cases h
theorem sets_form : ∀ {ts : List T}, ts.all setB = true → ∃ ss : List (Str × T), ts = ss.map stg ∧ ts.map keyOf = ss.map (·.1) ∧ ∀ p ∈ ss, okKey p.1 = true ∧ valB p.2 = true
  | [], _ => ⟨[], rfl, rfl, fun _ h => nomatch h⟩
  | t :: r, h => by
    rw [List.all_cons, Bool.and_eq_true] at h
    obtain ⟨p, rfl, e1, e2⟩ := set_form h.1
    obtain ⟨ss, rfl, e3, e4⟩ := sets_form h.2
    exact ⟨p :: ss, rfl, by rw [List.map_cons, List.map_cons, e3]; rfl, fun q hq => by
      cases hq with
      | head => exact ⟨e1, e2⟩
      | tail _ hq => exact e4 q hq⟩
/-- a comprehension over pairs -/
theorem collF2 {sl : List Sl} {α : Type} (g1 g2 f : α → T) {we : WE} {Q : List T → Prop} {i j : Nat} : ∀ (as : List α) (acc : List T), (∀ a ∈ as, ∀ R : Sl → Prop, R (.val (f a)) → we ((sl.set i (.val (g1 a))).set j (.val (g2 a))) R) → Q (acc ++ as.map f) → wColl (.names [i, j]) wYes we sl Q (as.map fun a => .tup [g1 a, g2 a]) acc
  | [], acc, _, q => by
    rw [List.map_nil, List.append_nil] at q
    exact q
  | n :: r, acc, h, q => by
    refine ⟨_, rfl, ?_⟩
    show we ((sl.set i (.val (g1 n))).set j (.val (g2 n))) fun y => ∃ u, y = .val u ∧ wColl (.names [i, j]) wYes we sl Q (r.map fun a => .tup [g1 a, g2 a]) (acc ++ [u])
    refine h n List.mem_cons_self _ ⟨f n, rfl, collF2 g1 g2 f r _ (fun m hm => h m (List.mem_cons_of_mem _ hm)) ?_⟩
    rw [List.append_assoc]
    exact q
theorem zip_pairs : ∀ (xs ys : List Str), List.zipWith (fun x y => T.tup [x, y]) (xs.map T.str) (ys.map T.str) = (xs.zip ys).map fun p => .tup [.str p.1, .str p.2]
  | [], _ => by simp
  | _ :: _, [] => by simp
  | x :: xs, y :: ys => by
    rw [List.map_cons, List.map_cons, List.zipWith_cons_cons, zip_pairs xs ys, List.zip_cons_cons, List.map_cons]
theorem zip_asc : ∀ (xs ys : List Str), (xs.zip ys).all (fun p => decide (p.1.cps.toList < p.2.cps.toList)) = (List.zipWith (fun x y => decide (x.cps.toList < y.cps.toList)) xs ys).all id
  | [], _ => by simp
  | _ :: _, [] => by simp
  | x :: xs, y :: ys => by
    rw [List.zip_cons_cons, List.all_cons, zip_asc xs ys, List.zipWith_cons_cons, List.all_cons]
    rfl
theorem cut_from {α : Type} (xs : List α) {n : Nat} (h : n ≤ xs.length) : cutT xs (some (n : Int)) none = xs.drop n := by
  unfold cutT
  have e : HT.sIx xs.length 0 (some (n : Int)) = n := by
    show (if (n : Int) < 0 then ((n : Int) + (xs.length : Int)).toNat else min (n : Int).toNat xs.length) = n
    rw [if_neg (by omega)]
    omega
  rw [e, HT.sIx_none]
  exact List.take_of_length_le (by rw [List.length_drop]; omega)
theorem collI (f : T → T) {we : WE} {sl : List Sl} {Q : List T → Prop} {i : Nat} (ts : List T) (h : ∀ a ∈ ts, ∀ R : Sl → Prop, R (.val (f a)) → we (sl.set i (.val a)) R) (q : Q (ts.map f)) : wColl (.name i) wYes we sl Q ts [] := by
  have := collF (we := we) (sl := sl) (Q := Q) (i := i) id f ts [] h q
  rwa [List.map_id] at this
theorem r_are_ascending {ks : List Str} (hl : 1 ≤ ks.length) (hm : ks.length ≤ 100) (p : P (B (asc ks))) : w_are_ascending [.val (.lst (ks.map T.str))] P := by
  refine st_are_ascending ?_
  have e1 : slT (.lst (ks.map T.str)) (some 1) none = some (.lst (ks.tail.map T.str)) := by
    show some (T.lst (cutT (ks.map T.str) (some ((1 : Nat) : Int)) none)) = _
    rw [cut_from _ (by rw [List.length_map]; exact hl), List.drop_one, List.map_tail]
  (repeat left)
  refine ⟨fun z => (nomatch z), fun z => (nomatch z), _, rfl, _, _, rfl, e1, _, _, .inl rfl, by rw [List.length_zipWith, List.length_map]; omega, ?_⟩
  rw [zip_pairs]
  refine collF2 (fun p : Str × Str => T.str p.1) (fun p => T.str p.2) (fun p => T.bl (decide (p.1.cps.toList < p.2.cps.toList))) _ [] (fun a ha R hR => ?_) ?_
  · exact ⟨fun z => (nomatch z), fun z => (nomatch z), _, _, _, rfl, rfl, rfl, hR⟩
  · refine ⟨_, _, rfl, bl_map, ?_⟩
    rw [zip_asc]
    exact p
theorem deedB_no {ts : List T} (h : ¬ (1 ≤ (ts.length : Int) ∧ (ts.length : Int) ≤ 6)) : deedB (.tup ts) = false := by
  show ((decide (1 ≤ ts.length) && decide (ts.length ≤ 6)) && _) = false
  rw [show (decide (1 ≤ ts.length) && decide (ts.length ≤ 6)) = false by
    rw [Bool.and_eq_false_iff, decide_eq_false_iff_not, decide_eq_false_iff_not]; omega, Bool.false_and]
theorem deedB_yes {ts : List T} (h1 : 1 ≤ (ts.length : Int)) (h2 : (ts.length : Int) ≤ 6) : deedB (.tup ts) = (ts.all setB && asc (ts.map keyOf)) := by
  show ((decide (1 ≤ ts.length) && decide (ts.length ≤ 6)) && _) = _
  rw [decide_eq_true (show 1 ≤ ts.length by omega), decide_eq_true (show ts.length ≤ 6 by omega), Bool.true_and, Bool.true_and]
theorem r_is_deed (h : fitD x) (p : P (B (deedB x))) : w_is_deed [.val x] P := by
  refine st_is_deed ?_
  obtain ⟨hf, hs⟩ := h
  cases x <;> first | (cases hf; done) | skip
  case tup ts =>
    obtain ⟨hl, ht⟩ := hs ts rfl
    (repeat left)
    refine x_ifc (fun h1 => ?_) (fun h1 => ?_)
    · (repeat left)
      refine x_ifc (fun h2 => ?_) (fun h2 => ?_)
      · rw [deedB_yes h1 h2] at p
        (repeat left)
        refine ⟨by omega, ?_⟩
        refine collI (fun t => .bl (setB t)) ts (fun a ha R hR => ?_) ?_
        · (repeat left)
          refine r__is_setting (ht a ha) ?_
          (repeat left)
          exact hR
        · (repeat left)
          refine ⟨_, _, rfl, bl_map, ?_⟩
          (repeat left)
          refine x_ifb (fun g => ?_) (fun g => ?_)
          · rw [g, Bool.true_and] at p
            obtain ⟨ss, rfl, e2, _⟩ := sets_form g
            rw [e2] at p
            (repeat left)
            refine ⟨by omega, ?_⟩
            refine collF2 (fun p : Str × T => T.str p.1) (fun p => p.2) (fun p => T.str p.1) ss [] (fun a ha R hR => ?_) ?_
            · (repeat left)
              exact hR
            · (repeat left)
              have e : ss.map (fun p => T.str p.1) = (ss.map (·.1)).map T.str := by rw [List.map_map]; rfl
              rw [List.nil_append, e]
              rw [List.length_map] at h1 h2
              refine r_are_ascending (by rw [List.length_map]; omega) (by rw [List.length_map]; omega) ?_
              (repeat left)
              exact p
          · rw [g, Bool.false_and] at p
            (repeat left)
            exact p
      · (repeat left)
        exact B_eq p (deedB_no fun z => h2 z.2)
    · (repeat left)
      exact B_eq p (deedB_no fun z => h1 z.1)
  all_goals (repeat left)
  all_goals exact p
end



end My


set_option Elab.async false
set_option linter.all false
set_option maxRecDepth 100000
set_option maxHeartbeats 0
namespace My
open PySem PySem.Spec PyProof.Rows L2 Tr
variable [Tabl]
/-! deeds, values -/
abbrev Dd := List (Str × Option Int)
def oT : Option Int → T
  | none => .non
  | some i => .int i
abbrev sT (p : Str × Option Int) : T := .tup [.str p.1, oT p.2]
abbrev dT (d : Dd) : T := .tup (d.map sT)
abbrev hT (ds : List Dd) : T := .tup (ds.map dT)
def vd (v : Option Int) (d : Dd) (k : Str) : Option Int := d.foldl (fun v p => if p.1 = k then p.2 else v) v
def vals (k : Str) (v : Option Int) : List Dd → List (Option Int)
  | [] => [v]
  | d :: r => v :: vals k (vd v d k) r
/-! dicts of the document: keys and what they are told -/
abbrev kk (A : Dd) : List Key := A.map fun p => .inr p.1
abbrev vv (A : Dd) : List T := A.map fun p => oT p.2
abbrev aT (A : Dd) : T := .dct (kk A) (vv A)
def look : Dd → Str → Option (Option Int)
  | [], _ => none
  | p :: A, z => if p.1 = z then some p.2 else look A z
theorem inr_eq {a b : Str} : ((Sum.inr a : Key) = .inr b) ↔ a = b := ⟨fun h => Sum.inr.inj h, fun h => by rw [h]⟩
theorem getK_A : ∀ (A : Dd) (z : Str), getK (kk A) (vv A) (.inr z) = (look A z).map oT
  | [], _ => rfl
  | p :: A, z => by
    have ih := getK_A A z
    unfold getK at ih ⊢
    show Option.map (·.2) (List.find? _ ((Sum.inr p.1, oT p.2) :: (kk A).zip (vv A))) = (if p.1 = z then some p.2 else look A z).map oT
    rw [List.find?_cons]
    by_cases h : p.1 = z
    · have e : decide ((Sum.inr p.1 : Key) = .inr z) = true := decide_eq_true (inr_eq.mpr h)
      simp only [e]
      rw [if_pos h]; rfl
    · have e : decide ((Sum.inr p.1 : Key) = .inr z) = false := decide_eq_false fun g => h (inr_eq.mp g)
      simp only [e]
      rw [if_neg h]; exact ih
theorem mkI_A : ∀ A : Dd, mkI (kk A) (vv A) = A.map sT
  | [] => rfl
  | p :: A => by
    show T.tup [keyW (.inr p.1), oT p.2] :: mkI (kk A) (vv A) = _
    rw [mkI_A A]; rfl
theorem hasK_A : ∀ (A : Dd) (z : Str), hasK (.inr z) (kk A) = (look A z).isSome
  | [], _ => rfl
  | p :: A, z => by
    have ih := hasK_A A z
    unfold hasK at ih ⊢
    show (decide ((Sum.inr p.1 : Key) = .inr z) || (kk A).any _) = (if p.1 = z then some p.2 else look A z).isSome
    rw [ih]
    by_cases h : p.1 = z
    · rw [decide_eq_true (inr_eq.mpr h), if_pos h]; rfl
    · rw [decide_eq_false fun g => h (inr_eq.mp g), if_neg h]; rfl
def rpl (z : Str) (v : Option Int) : Dd → Dd
  | [] => []
  | p :: A => (if p.1 = z then (p.1, v) else p) :: rpl z v A
def putA (z : Str) (v : Option Int) (A : Dd) : Dd := if (look A z).isSome = true then rpl z v A else A ++ [(z, v)]
theorem kk_rpl : ∀ {z : Str} {v : Option Int} {A : Dd}, (rpl z v A).map (·.1) = A.map (·.1)
  | _, _, [] => rfl
  | z, v, p :: A => by
    show (if p.1 = z then (p.1, v) else p).1 :: (rpl z v A).map (·.1) = p.1 :: A.map (·.1)
    rw [kk_rpl]
    split <;> rfl
theorem kk_of (A : Dd) : kk A = (A.map (·.1)).map Sum.inr := by rw [List.map_map]; rfl
theorem putKs_A {z : Str} {v : Option Int} {A : Dd} : putKs (.inr z) (kk A) = kk (putA z v A) := by
  unfold putKs putA
  rw [hasK_A]
  split
  · rw [kk_of, kk_of, kk_rpl]
  · rw [kk, kk, List.map_append]; rfl
theorem repl_A {z : Str} {v : Option Int} : ∀ A : Dd, replV (.inr z) (oT v) (kk A) (vv A) = vv (rpl z v A)
  | [] => rfl
  | p :: A => by
    show (if (Sum.inr p.1 : Key) = .inr z then oT v else oT p.2) :: replV (.inr z) (oT v) (kk A) (vv A) = oT (if p.1 = z then (p.1, v) else p).2 :: vv (rpl z v A)
    rw [repl_A A]
    by_cases h : p.1 = z
    · rw [if_pos (inr_eq.mpr h), if_pos h]
    · rw [if_neg (fun g => h (inr_eq.mp g)), if_neg h]
theorem putVs_A {z : Str} {v : Option Int} {A : Dd} : putVs (.inr z) (oT v) (kk A) (vv A) = vv (putA z v A) := by
  unfold putVs putA
  rw [hasK_A]
  split
  · exact repl_A A
  · rw [vv, vv, List.map_append]; rfl
theorem look_none : ∀ {A : Dd} {z : Str}, look A z = none ↔ z ∉ A.map (·.1)
  | [], _ => ⟨fun _ h => (by cases h), fun _ => rfl⟩
  | p :: A, z => by
    show (if p.1 = z then some p.2 else look A z) = none ↔ z ∉ p.1 :: A.map (·.1)
    by_cases h : p.1 = z
    · rw [if_pos h]
      exact ⟨fun g => (by cases g), fun g => (g (by rw [h]; exact List.mem_cons_self)).elim⟩
    · rw [if_neg h, look_none, List.mem_cons]
      exact ⟨fun g q => q.elim (fun e => h e.symm) g, fun g q => g (.inr q)⟩
theorem look_rpl : ∀ {A : Dd} {z x : Str} {v : Option Int}, look (rpl z v A) x = if z = x ∧ (look A z).isSome = true then some v else look A x
  | [], z, x, v => by
    rw [if_neg (fun h => by cases h.2)]; rfl
  | p :: A, z, x, v => by
    have ih := look_rpl (A := A) (z := z) (x := x) (v := v)
    show (if (if p.1 = z then (p.1, v) else p).1 = x then some (if p.1 = z then (p.1, v) else p).2 else look (rpl z v A) x) = if z = x ∧ (if p.1 = z then some p.2 else look A z).isSome = true then some v else if p.1 = x then some p.2 else look A x
    rw [ih]
    by_cases h : p.1 = z
    · subst h
      rw [if_pos rfl, if_pos rfl]
      by_cases g : p.1 = x
      · rw [if_pos g, if_pos ⟨g, rfl⟩]
      · rw [if_neg g, if_neg (fun q => g q.1), if_neg (fun q => g q.1), if_neg g]
    · rw [if_neg h, if_neg h]
      by_cases g : p.1 = x
      · rw [if_pos g, if_pos g, if_neg (fun q => h (g.trans q.1.symm))]
      · rw [if_neg g, if_neg g]
theorem look_app : ∀ {A : Dd} {x z : Str} {v : Option Int}, look (A ++ [(z, v)]) x = match look A x with
    | some w => some w
    | none => if z = x then some v else none
  | [], _, _, _ => rfl
  | p :: A, x, z, v => by
    show (if p.1 = x then some p.2 else look (A ++ [(z, v)]) x) = _
    rw [look_app]
    show _ = match (if p.1 = x then some p.2 else look A x) with
      | some w => some w
      | none => if z = x then some v else none
    split <;> rfl
theorem look_put {A : Dd} {z x : Str} {v : Option Int} : look (putA z v A) x = if z = x then some v else look A x := by
  unfold putA
  split
  · rename_i h
    rw [look_rpl]
    by_cases g : z = x
    · rw [if_pos ⟨g, h⟩, if_pos g]
    · rw [if_neg (fun q => g q.1), if_neg g]
  · rename_i h
    rw [look_app]
    by_cases g : z = x
    · subst g
      cases e : look A z with
      | none => rfl
      | some w => rw [e] at h; exact (h rfl).elim
    · rw [if_neg g, if_neg g]
      cases look A x <;> rfl
def NdA (A : Dd) : Prop := (A.map (·.1)).Nodup
theorem NdA.nil : NdA [] := List.nodup_nil
theorem NdA.put {A : Dd} {z : Str} {v : Option Int} (h : NdA A) : NdA (putA z v A) := by
  unfold NdA putA
  split
  · rw [kk_rpl]; exact h
  · rename_i g
    rw [List.map_append]
    refine List.nodup_append.mpr ⟨h, List.nodup_cons.mpr ⟨fun q => (by cases q), List.nodup_nil⟩, fun a ha b hb e => ?_⟩
    rw [List.mem_singleton.mp hb] at e
    have : look A z = none := by cases q : look A z with
      | none => rfl
      | some w => rw [q] at g; exact (g rfl).elim
    exact look_none.mp this ((show a = z from e) ▸ ha)
theorem NdA.mem {A : Dd} (h : NdA A) {z : Str} {v : Option Int} : look A z = some v ↔ (z, v) ∈ A := by
  induction A with
  | nil => exact ⟨fun e => (by cases e), fun e => by cases e⟩
  | cons p A ih =>
    have h2 : p.1 ∉ A.map (·.1) ∧ NdA A := List.nodup_cons.mp h
    show (if p.1 = z then some p.2 else look A z) = some v ↔ _
    by_cases g : p.1 = z
    · rw [if_pos g]
      refine ⟨fun e => ?_, fun e => ?_⟩
      · injection e with e
        rw [← g, ← e]; exact List.mem_cons_self
      · rcases List.mem_cons.mp e with e | e
        · rw [← e]
        · exact (h2.1 (g ▸ List.mem_map.mpr ⟨_, e, rfl⟩)).elim
    · rw [if_neg g, ih h2.2]
      refine ⟨fun e => List.mem_cons_of_mem _ e, fun e => ?_⟩
      rcases List.mem_cons.mp e with e | e
      · exact (g (by rw [← e])).elim
      · exact e
theorem put_len {A : Dd} {z : Str} {v : Option Int} : (putA z v A).length ≤ A.length + 1 := by
  unfold putA
  split
  · have := congrArg List.length (kk_rpl (z := z) (v := v) (A := A))
    rw [List.length_map, List.length_map] at this
    omega
  · rw [List.length_append]; exact Nat.le_refl _
theorem put_mem {A : Dd} {z : Str} {v : Option Int} {p : Str × Option Int} (h : p ∈ putA z v A) : p = (z, v) ∨ p ∈ A := by
  unfold putA at h
  split at h
  · have : ∀ A : Dd, p ∈ rpl z v A → p = (z, v) ∨ p ∈ A := by
      intro A
      induction A with
      | nil => intro h; cases h
      | cons q A ih =>
        intro h
        rcases List.mem_cons.mp h with e | e
        · by_cases g : q.1 = z
          · rw [if_pos g, g] at e; exact .inl e
          · rw [if_neg g] at e; exact .inr (e ▸ List.mem_cons_self)
        · exact (ih e).imp id (List.mem_cons_of_mem _)
    exact this A h
  · rcases List.mem_append.mp h with e | e
    · exact .inr e
    · exact .inl (List.mem_singleton.mp e)
/-- laid upon -/
def layA : Dd → Dd → Dd
  | [], A => A
  | p :: B, A => layA B (putA p.1 p.2 A)
theorem lay_A : ∀ B A : Dd, layK (B.map fun p => ((.inr p.1 : Key), oT p.2)) (kk A) (vv A) = (kk (layA B A), vv (layA B A))
  | [], _ => rfl
  | p :: B, A => by
    show layK (B.map _) (putKs (.inr p.1) (kk A)) (putVs (.inr p.1) (oT p.2) (kk A) (vv A)) = _
    rw [putKs_A (v := p.2), putVs_A]
    exact lay_A B _
def lastO (z : Str) (o : Option (Option Int)) (B : Dd) : Option (Option Int) := B.foldl (fun o p => if p.1 = z then some p.2 else o) o
theorem look_lay : ∀ (B A : Dd) (z : Str), look (layA B A) z = lastO z (look A z) B
  | [], _, _ => rfl
  | p :: B, A, z => by
    show look (layA B (putA p.1 p.2 A)) z = _
    rw [look_lay B, look_put]; rfl
theorem NdA.lay : ∀ {B A : Dd}, NdA A → NdA (layA B A)
  | [], _, h => h
  | p :: B, A, h => NdA.lay (B := B) (A := putA p.1 p.2 A) h.put
theorem lay_len : ∀ {B A : Dd}, (layA B A).length ≤ A.length + B.length
  | [], _ => Nat.le_refl _
  | p :: B, A => by
    have h1 := lay_len (B := B) (A := putA p.1 p.2 A)
    have h2 := put_len (A := A) (z := p.1) (v := p.2)
    show (layA B (putA p.1 p.2 A)).length ≤ A.length + (B.length + 1)
    omega
theorem lay_mem : ∀ {B A : Dd} {p : Str × Option Int}, p ∈ layA B A → p ∈ B ∨ p ∈ A
  | [], _, _, h => .inr h
  | q :: B, A, p, h => by
    rcases lay_mem (B := B) h with e | e
    · exact .inl (List.mem_cons_of_mem _ e)
    · rcases put_mem e with e | e
      · exact .inl (e ▸ List.mem_cons_self)
      · exact .inr e
theorem pairs_A : ∀ A : Dd, pairsT (A.map sT) = some (A.map fun p => ((.inr p.1 : Key), oT p.2))
  | [] => rfl
  | p :: A => by
    have := pairs_A A
    simp only [List.map_cons, pairsT, keyT, this]
/-! the keys that don't agree -/
abbrev uk (U : List Str) : List Key := U.map .inr
abbrev uv (U : List Str) : List T := U.map fun _ => .bl true
def putU (z : Str) (U : List Str) : List Str := if z ∈ U then U else U ++ [z]
def layU : List Str → List Str → List Str
  | [], U => U
  | z :: B, U => layU B (putU z U)
def drU (z : Str) (U : List Str) : List Str := U.filter fun x => decide (x ≠ z)
def okV (v : Option Int) : Prop := ∀ i, v = some i → -999999999999 ≤ i ∧ i ≤ 999999999999
theorem add_l {xs ys : List T} (h : few (xs.length + ys.length) = true) : addT (.lst xs) (.lst ys) = some (.lst (xs ++ ys)) := if_pos h
theorem srtK_A (A : Dd) : SrtK (kk A) := by
  refine ⟨fun d hd d' hd' => ?_, .inr fun d hd => ?_⟩
  · obtain ⟨k, hk, rfl⟩ := List.mem_map.mp hd
    obtain ⟨p, _, rfl⟩ := List.mem_map.mp hk
    obtain ⟨k, hk, rfl⟩ := List.mem_map.mp hd'
    obtain ⟨q, _, rfl⟩ := List.mem_map.mp hk
    rfl
  · obtain ⟨k, hk, rfl⟩ := List.mem_map.mp hd
    obtain ⟨p, _, rfl⟩ := List.mem_map.mp hk
    exact ⟨fun e => (nomatch e), fun xs e => (nomatch e)⟩
def unI : Key → Str
  | .inr z => z
  | .inl _ => ""
theorem last_nd {z : Str} : ∀ {S : Dd} {o : Option (Option Int)}, NdA S → lastO z o S = match look S z with
    | some v => some v
    | none => o
  | [], _, _ => rfl
  | p :: S, o, h => by
    have h2 : p.1 ∉ S.map (·.1) ∧ NdA S := List.nodup_cons.mp h
    show lastO z (if p.1 = z then some p.2 else o) S = match (if p.1 = z then some p.2 else look S z) with
      | some v => some v
      | none => o
    rw [last_nd h2.2]
    by_cases g : p.1 = z
    · rw [if_pos g, if_pos g, look_none.mpr (g ▸ h2.1)]
    · rw [if_neg g, if_neg g]
theorem last_vd {z : Str} : ∀ {d : Dd} {o : Option (Option Int)}, (lastO z o d).getD none = vd (o.getD none) d z
  | [], _ => rfl
  | p :: d, o => by
    show (lastO z (if p.1 = z then some p.2 else o) d).getD none = vd (if p.1 = z then p.2 else o.getD none) d z
    rw [last_vd]
    split <;> rfl
theorem last_app {z : Str} {o : Option (Option Int)} {a b : Dd} : lastO z o (a ++ b) = lastO z (lastO z o a) b := List.foldl_append
structure Stt (S : Dd) (cur : Str → Option Int) : Prop where
  nd : NdA S
  eq : ∀ z, (look S z).getD none = cur z
  ok : ∀ p ∈ S, okV p.2
theorem Stt.nil : Stt [] fun _ => none := ⟨NdA.nil, fun _ => rfl, fun p h => by cases h⟩
def keep (M : Dd) (z : Str) : Bool := ((look M z).getD none).isSome
def cutM (M : Dd) (zs : List Str) : Dd := (zs.filter (keep M)).map fun z => (z, (look M z).getD none)
theorem cutM_st {M : Dd} {zs : List Str} {cur : Str → Option Int} (hM : NdA M) (hz : zs.Perm (M.map (·.1))) (h : ∀ z, (look M z).getD none = cur z) (ok : ∀ p ∈ M, okV p.2) : Stt (cutM M zs) cur := by
  have hk : (cutM M zs).map (·.1) = zs.filter (keep M) := by
    unfold cutM
    rw [List.map_map]
    exact List.map_id _
  have nd : NdA (cutM M zs) := by
    unfold NdA
    rw [hk]
    exact (hz.nodup_iff.mpr hM).filter _
  refine ⟨nd, fun z => ?_, fun p hp => ?_⟩
  · rw [← h z]
    cases e : look (cutM M zs) z with
    | none =>
      cases e2 : (look M z).getD none with
      | none => rfl
      | some i =>
        have hm : z ∈ M.map (·.1) := Decidable.byContradiction fun g => by
          rw [look_none.mpr g] at e2; cases e2
        have : z ∈ (cutM M zs).map (·.1) := by
          rw [hk]
          exact List.mem_filter.mpr ⟨hz.mem_iff.mpr hm, by unfold keep; rw [e2]; rfl⟩
        exact (look_none.mp e this).elim
    | some w =>
      obtain ⟨x, hx, e2⟩ := List.mem_map.mp (nd.mem.mp e)
      injection e2 with e2 e3
      subst e2
      exact e3.symm
  · obtain ⟨x, hx, rfl⟩ := List.mem_map.mp hp
    intro i e
    have e : (look M x).getD none = some i := e
    cases e2 : look M x with
    | none => rw [e2] at e; cases e
    | some w =>
      rw [e2] at e
      exact ok _ (hM.mem.mp e2) i e
def vD (S : Dd) : Str → Option Int := fun z => (look S z).getD none
theorem Stt.cur {S : Dd} {cur : Str → Option Int} (h : Stt S cur) : vD S = cur := funext h.eq
theorem getD_A {S : Dd} {z : Str} : (getK (kk S) (vv S) (.inr z)).getD .non = oT (vD S z) := by
  rw [getK_A]
  unfold vD
  cases look S z <;> rfl
theorem eqB_o {a b : Option Int} : eqB (oT a) (oT b) = decide (a = b) := by
  cases a with
  | none => cases b <;> rfl
  | some i => cases b with
    | none => rfl
    | some j =>
      rw [Bool.eq_iff_iff, decide_eq_true_iff]
      show (decide (i = j) = true) ↔ _
      rw [decide_eq_true_iff]
      exact ⟨fun h => h ▸ rfl, fun h => Option.some.inj h⟩
/-! texts in their order -/
theorem dl_key (a b : Str) : PySem.W.dataLe false keyD (.inr a) (.inr b) = SG.strLe a b := by rw [← SG.dataLe_s]; rfl
theorem dl_dat (a b : Str) : PySem.W.dataLe false datD (.str a) (.str b) = SG.strLe a b := by rw [← SG.dataLe_s]; rfl
theorem sortK_S (l : List Str) : sortK (l.map .inr) = (l.mergeSort SG.strLe).map .inr := (List.map_mergeSort fun a _ b _ => (dl_key a b).symm).symm
theorem sortT_S (l : List Str) : sortT (l.map T.str) = (l.mergeSort SG.strLe).map T.str := (List.map_mergeSort fun a _ b _ => (dl_dat a b).symm).symm
theorem ms_id {l : List Str} (h : l.Pairwise fun a b => SG.strLe a b = true) : l.mergeSort SG.strLe = l := List.mergeSort_of_pairwise h
theorem lt_of {a b : Str} (h : SG.strLe a b = true) (n : a ≠ b) : a.cps.toList < b.cps.toList := by
  have h1 : a.cps.toList ≤ b.cps.toList := of_decide_eq_true h
  refine Classical.byContradiction fun z => n (SG.strLe_anti h (decide_eq_true ?_))
  exact List.not_lt.mp z
/-- states: just the keys that have a value, in their order -/
structure Sd (S : Dd) (cur : Str → Option Int) : Prop where
  nd : NdA S
  eq : ∀ z, look S z = (cur z).map some
  ok : ∀ p ∈ S, okV p.2
  srt : (S.map (·.1)).Pairwise fun a b => SG.strLe a b = true
theorem Sd.nil : Sd [] fun _ => none := ⟨NdA.nil, fun _ => rfl, fun p h => (by cases h), .nil⟩
theorem Sd.val {S : Dd} {cur : Str → Option Int} (h : Sd S cur) : ∀ p ∈ S, cur p.1 = p.2 ∧ p.2.isSome = true := fun p hp => by
  have e := h.nd.mem.mpr (show (p.1, p.2) ∈ S from hp)
  rw [h.eq] at e
  cases q : cur p.1 with
  | none => rw [q] at e; cases e
  | some i =>
    rw [q] at e
    injection e with e
    rw [← e]; exact ⟨rfl, rfl⟩
theorem Sd.keys {S : Dd} {cur : Str → Option Int} (h : Sd S cur) (z : Str) : z ∈ S.map (·.1) ↔ cur z ≠ none := by
  rw [← Decidable.not_not (p := z ∈ S.map (·.1)), ← look_none, h.eq]
  cases cur z <;> simp
theorem Sd.one {S S' : Dd} {cur : Str → Option Int} (h : Sd S cur) (h' : Sd S' cur) : S = S' := by
  have k : S.map (·.1) = S'.map (·.1) := SG.sorted_perm ((List.perm_ext_iff_of_nodup h.nd h'.nd).mpr fun z => (h.keys z).trans (h'.keys z).symm) h.srt h'.srt
  have key : ∀ {A : Dd}, (∀ p ∈ A, cur p.1 = p.2) → A = (A.map (·.1)).map fun z => (z, cur z) := fun {A} q => by
    rw [List.map_map]
    conv => lhs; rw [← List.map_id A]
    exact List.map_congr_left fun p hp => by
      show p = (p.1, cur p.1)
      rw [q p hp]
  rw [key fun p hp => (h.val p hp).1, k, ← key fun p hp => (h'.val p hp).1]
theorem Sd.vD {S : Dd} {cur : Str → Option Int} (h : Sd S cur) : vD S = cur := funext fun z => by
  unfold My.vD
  rw [h.eq]
  cases cur z <;> rfl
theorem Sd.stt {S : Dd} {cur : Str → Option Int} (h : Sd S cur) : Stt S cur := ⟨h.nd, fun z => by rw [h.eq]; cases cur z <;> rfl, h.ok⟩
/-- what stands just for the keys that have a value, in any order -/
structure Ex (S : Dd) (cur : Str → Option Int) : Prop where
  nd : NdA S
  eq : ∀ z, look S z = (cur z).map some
  ok : ∀ p ∈ S, okV p.2
theorem shp_o (a : Option Int) : shp (oT a) = true := by cases a <;> rfl
theorem eqDB_sub {A : Dd} : ∀ {B : Dd}, (∀ p ∈ B, look A p.1 = some p.2) → eqDB (kk B) (vv B) (kk A) (vv A) = true
  | [], _ => rfl
  | p :: B, h => by
    show ((match getK (kk A) (vv A) (.inr p.1) with
      | some u => eqB (oT p.2) u
      | none => false) && eqDB (kk B) (vv B) (kk A) (vv A)) = true
    rw [getK_A, h p List.mem_cons_self, eqDB_sub fun q hq => h q (List.mem_cons_of_mem _ hq), Bool.and_true]
    show eqB (oT p.2) (oT p.2) = true
    rw [eqB_o, decide_eq_true rfl]
theorem all_shp (A : Dd) : (vv A).all shp = true := List.all_eq_true.mpr fun t ht => by
  obtain ⟨p, _, rfl⟩ := List.mem_map.mp ht
  exact shp_o _
theorem eqDct_self {S : Dd} (h : NdA S) : eqDct (aT S) (aT S) = some (.bl true) := by
  show (if ((vv S).all shp && (vv S).all shp) = true then some (T.bl ((kk S).length == (kk S).length && eqDB (kk S) (vv S) (kk S) (vv S))) else none) = _
  rw [all_shp, eqDB_sub fun p hp => h.mem.mpr hp, beq_self_eq_true]; rfl
theorem neDct_self {S : Dd} (h : NdA S) : neDct (aT S) (aT S) = some (.bl false) := by
  show (if ((vv S).all shp && (vv S).all shp) = true then some (T.bl (!((kk S).length == (kk S).length && eqDB (kk S) (vv S) (kk S) (vv S)))) else none) = _
  rw [all_shp, eqDB_sub fun p hp => h.mem.mpr hp, beq_self_eq_true]; rfl
/-! d.pop -/
def drA (z : Str) (A : Dd) : Dd := A.filter fun p => decide (p.1 ≠ z)
theorem dropKs_A {z : Str} : ∀ {A : Dd}, dropKs (.inr z) (kk A) = kk (drA z A)
  | [] => rfl
  | p :: A => by
    have ih := dropKs_A (z := z) (A := A)
    unfold dropKs drA at ih ⊢
    show List.filter _ (Sum.inr p.1 :: kk A) = _
    by_cases h : p.1 = z
    · rw [List.filter_cons_of_neg (by simp [h]), List.filter_cons_of_neg (by simp [h])]; exact ih
    · rw [List.filter_cons_of_pos (by simp [h]), List.filter_cons_of_pos (by simp [h]), ih]; rfl
theorem dropVs_A {z : Str} : ∀ {A : Dd}, dropVs (.inr z) (kk A) (vv A) = vv (drA z A)
  | [] => rfl
  | p :: A => by
    have ih := dropVs_A (z := z) (A := A)
    show (if (Sum.inr p.1 : Key) = .inr z then dropVs (.inr z) (kk A) (vv A) else oT p.2 :: dropVs (.inr z) (kk A) (vv A)) = _
    unfold drA at ih ⊢
    by_cases h : p.1 = z
    · rw [if_pos (inr_eq.mpr h), List.filter_cons_of_neg (by simp [h])]; exact ih
    · rw [if_neg (fun g => h (inr_eq.mp g)), List.filter_cons_of_pos (by simp [h]), ih]; rfl
theorem look_drA {z x : Str} : ∀ {A : Dd}, look (drA z A) x = if z = x then none else look A x
  | [] => by split <;> rfl
  | p :: A => by
    have ih := look_drA (z := z) (x := x) (A := A)
    unfold drA at ih ⊢
    show _ = if z = x then none else if p.1 = x then some p.2 else look A x
    by_cases h : p.1 = z
    · rw [List.filter_cons_of_neg (by simp [h]), ih]
      by_cases g : z = x
      · rw [if_pos g, if_pos g]
      · rw [if_neg g, if_neg g, if_neg (h ▸ g)]
    · rw [List.filter_cons_of_pos (by simp [h])]
      show (if p.1 = x then some p.2 else look _ x) = _
      rw [ih]
      by_cases g : z = x
      · rw [if_pos g, if_pos g, if_neg (fun e => h (e.trans g.symm))]
      · rw [if_neg g, if_neg g]
theorem NdA.dr {A : Dd} {z : Str} (h : NdA A) : NdA (drA z A) := by
  unfold NdA drA
  exact h.sublist (List.filter_sublist.map _)
theorem Ex.put {M : Dd} {cur : Str → Option Int} {z : Str} {i : Int} (h : Ex M cur) (hv : okV (some i)) : Ex (putA z (some i) M) (fun k => if z = k then some i else cur k) := ⟨h.nd.put, fun x => by
  rw [look_put]
  by_cases g : z = x
  · rw [if_pos g, if_pos g]; rfl
  · rw [if_neg g, if_neg g, h.eq], fun p hp => (put_mem hp).elim (fun e => e ▸ hv) (h.ok p)⟩
theorem Ex.dr {M : Dd} {cur : Str → Option Int} {z : Str} (h : Ex M cur) : Ex (drA z M) (fun k => if z = k then none else cur k) := ⟨h.nd.dr, fun x => by
  rw [look_drA]
  by_cases g : z = x
  · rw [if_pos g, if_pos g]; rfl
  · rw [if_neg g, if_neg g, h.eq], fun p hp => h.ok p (List.mem_filter.mp hp).1⟩
theorem drA_len {z : Str} {A : Dd} : (drA z A).length ≤ A.length := List.length_filter_le _ _
/-- the same in their order -/
def srtA (M : Dd) : Dd := ((M.map (·.1)).mergeSort SG.strLe).map fun z => (z, (look M z).getD none)
theorem srtA_keys (M : Dd) : (srtA M).map (·.1) = (M.map (·.1)).mergeSort SG.strLe := by
  unfold srtA
  rw [List.map_map]
  exact List.map_id _
theorem Ex.srt {M : Dd} {cur : Str → Option Int} (h : Ex M cur) : Sd (srtA M) cur := by
  have hk := srtA_keys M
  have pm := List.mergeSort_perm (M.map (·.1)) SG.strLe
  have nd : NdA (srtA M) := by unfold NdA; rw [hk]; exact pm.nodup_iff.mpr h.nd
  have val : ∀ z, (look M z).getD none = cur z := fun z => by rw [h.eq]; cases cur z <;> rfl
  refine ⟨nd, fun z => ?_, fun p hp => ?_, by rw [hk]; exact SG.sorted_ms _⟩
  · cases e : look (srtA M) z with
    | none =>
      have q := look_none.mp e
      rw [hk, pm.mem_iff] at q
      rw [← h.eq, look_none.mpr q]
    | some w =>
      obtain ⟨x, hx, e2⟩ := List.mem_map.mp (nd.mem.mp e)
      injection e2 with e2 e3
      subst e2
      have q : look M x ≠ none := fun g => look_none.mp g (pm.mem_iff.mp hx)
      rw [h.eq] at q e3
      cases c : cur x with
      | none => rw [c] at q; exact (q rfl).elim
      | some i => rw [c] at e3; exact congrArg some e3.symm
  · obtain ⟨x, hx, rfl⟩ := List.mem_map.mp hp
    intro i e
    have e : (look M x).getD none = some i := e
    cases e2 : look M x with
    | none => rw [e2] at e; cases e
    | some w =>
      rw [e2] at e
      exact h.ok _ (h.nd.mem.mp e2) i e
theorem lay_nd : ∀ {B A : Dd}, NdA (A ++ B) → layA B A = A ++ B
  | [], A, _ => (List.append_nil A).symm
  | p :: B, A, h => by
    have hp : look A p.1 = none := look_none.mpr fun z => by
      unfold NdA at h
      rw [List.map_append] at h
      exact (List.nodup_append.mp h).2.2 _ z _ (List.mem_cons_self) rfl
    have e : putA p.1 p.2 A = A ++ [p] := by unfold putA; rw [hp]; rfl
    show layA B (putA p.1 p.2 A) = _
    rw [e, lay_nd (B := B) (A := A ++ [p]) (by rw [List.append_assoc]; exact h), List.append_assoc]; rfl
/-- behind the first deeds -/
def curs (cur : Str → Option Int) (ds : List Dd) : Str → Option Int := fun z => ds.foldl (fun v d => vd v d z) (cur z)
end My


set_option Elab.async false
set_option linter.all false
set_option maxRecDepth 100000
set_option maxHeartbeats 0
namespace My
open PySem PySem.Spec PyProof.Rows L2 Tr
variable [Tabl]

open PySem PySem.Spec PyProof.Rows L2 Tr
variable [Tabl]

open PySem PySem.Spec PyProof.Rows L2 Tr
variable [Tabl]
section
variable {P : Sl → Prop} {cN : Str → Addr}
/-! stretches -/
abbrev pT (p : Int × Int) : T := .tup [.int p.1, .int p.2]
theorem ends {α : Type} (l : List α) : l = [] ∨ ∃ a x, l = a ++ [x] := by
  rcases List.eq_nil_or_concat l with e | ⟨a, x, e⟩
  · exact .inl e
  · exact .inr ⟨a, x, by rw [e, List.concat_eq_append]⟩
theorem okKey_sh {z : Str} (h : okKey z = true) : sh 8 (.str z) = true := by
  have h2 : z.cps.toList.all (fun c => decide (c ∈ ("abcdefghijklmnopqrstuvwxyz" : Str).cps.toList)) = true := (Bool.and_eq_true .. ▸ h : _ ∧ _).2
  show z.cps.all (fun c => decide (c < 0x110000)) = true
  rw [← Array.all_toList]
  refine List.all_eq_true.mpr fun c hc => ?_
  have h3 := List.all_eq_true.mp h2 c hc
  rw [abc_mem, Bool.and_eq_true, decide_eq_true_iff, decide_eq_true_iff] at h3
  exact decide_eq_true (by omega)
end


open PySem PySem.Spec PyProof.Rows L2 Tr
variable [Tabl]
section
variable {P : Sl → Prop} {cN : Str → Addr}
theorem sh_o (a : Option Int) : sh 8 (oT a) = true := by cases a <;> rfl
theorem ne_o {a b : Option Int} : neT (oT a) (oT b) = some (.bl (!decide (a = b))) := by rw [neT_some (sh_o a) (sh_o b), eqB_o]
theorem valB_o {v : Option Int} (h : okV v) : valB (oT v) = true := by
  cases v with
  | none => rfl
  | some i =>
    have := h i rfl
    show (decide _ && decide _) = true
    rw [decide_eq_true this.1, decide_eq_true this.2]; rfl
structure okP (p : Str × Option Int) : Prop where
  k : okKey p.1 = true
  v : okV p.2
structure okA (A : Dd) : Prop where
  nd : NdA A
  len : A.length ≤ 40
  ok : ∀ p ∈ A, okP p
theorem key_len {z : Str} (h : okKey z = true) : z.length ≤ 8 := by
  have := (Bool.and_eq_true .. ▸ ((Bool.and_eq_true .. ▸ h : _ ∧ _).1) : _ ∧ _).2
  have := of_decide_eq_true this
  omega
theorem smS {z : Str} (h : okKey z = true) : smallS (.str z) := fun x e => by
  injection e with e
  subst e
  have := key_len h
  omega
theorem fl_o (v : Option Int) : fl (oT v) = true := by cases v <;> rfl
theorem r_key {z : Str} (h : okKey z = true) (p : P (B true)) : w_is_key [.val (.str z)] P :=
  r_is_key rfl (smS h) (B_eq p (Eq.symm h))
theorem all_true {α : Type} {as : List α} : allT [.lst (as.map fun _ => T.bl true)] = some (.bl true) := by
  rw [bl_map (f := fun _ => true)]
  congr 2
  exact List.all_eq_true.mpr fun _ _ => rfl
theorem setB_s {p : Str × Option Int} (h : okP p) : setB (sT p) = true := by
  show (keyB (.str p.1) && valB (oT p.2)) = true
  rw [valB_o h.v]
  show (okKey p.1 && true) = true
  rw [h.k]; rfl
structure okD (d : Dd) : Prop where
  l1 : 1 ≤ d.length
  l6 : d.length ≤ 6
  ok : ∀ p ∈ d, okP p
  asc : asc (d.map (·.1)) = true
theorem deed_ok {d : Dd} (h : okD d) : deedB (dT d) = true := by
  have h1 := h.l1
  have h2 := h.l6
  rw [deedB_yes (by rw [List.length_map]; omega) (by rw [List.length_map]; omega), Bool.and_eq_true]
  refine ⟨List.all_eq_true.mpr fun t ht => ?_, ?_⟩
  · obtain ⟨p, hp, rfl⟩ := List.mem_map.mp ht
    exact setB_s (h.ok p hp)
  · rw [List.map_map]
    exact h.asc
theorem fitS_s {p : Str × Option Int} (h : okP p) : fitS (sT p) := ⟨rfl, fun ts e => by
  injection e with e
  subst e
  refine ⟨by show 2 ≤ 1000; decide, fun t ht => ?_⟩
  rcases List.mem_cons.mp ht with rfl | ht
  · exact ⟨rfl, smS h.k⟩
  · rw [List.mem_singleton.mp ht]
    exact ⟨fl_o _, fun z e => by cases h2 : p.2 <;> rw [h2] at e <;> cases e⟩⟩
theorem fitD_d {d : Dd} (h : okD d) : fitD (dT d) := ⟨rfl, fun ts e => by
  injection e with e
  subst e
  refine ⟨by rw [List.length_map]; have := h.l6; omega, fun t ht => ?_⟩
  obtain ⟨p, hp, rfl⟩ := List.mem_map.mp ht
  exact fitS_s (h.ok p hp)⟩
structure okH (ds : List Dd) : Prop where
  len : ds.length ≤ 1500
  ok : ∀ d ∈ ds, okD d
abbrev hisT (cN : Str → Addr) (ds : List Dd) : T := .ins (cN "History") ["deeds"] [hT ds]
theorem r__need_deeds {ds : List Dd} (h : okH ds) (p : P (.val .non)) : w__need_deeds [.val (hT ds)] P := by
  have hl := h.len
  refine st__need_deeds ?_
  (repeat left)
  refine ⟨by rw [List.length_map]; omega, ?_⟩
  refine collF (g := dT) (f := fun _ => .bl true) ds [] (fun d hd R hR => ?_) ?_
  · (repeat left)
    exact r_is_deed (fitD_d (h.ok d hd)) (B_eq hR (Eq.symm (deed_ok (h.ok d hd))))
  · rw [List.nil_append]
    (repeat left)
    refine ⟨_, _, rfl, all_true, ?_⟩
    (repeat left)
    exact p
end


open PySem PySem.Spec PyProof.Rows L2 Tr
variable [Tabl]
section
variable {P : Sl → Prop} {cN : Str → Addr}
end


open PySem PySem.Spec PyProof.Rows L2 Tr
variable [Tabl]
section
variable {P : Sl → Prop} {cN : Str → Addr}
end


open PySem PySem.Spec PyProof.Rows L2 Tr
variable [Tabl]
section
variable {P : Sl → Prop} {cN : Str → Addr}
abbrev N3 : List Str := ["a", "b", "key"]
def unS : T → Str
  | .str z => z
  | _ => ""
def leS (x y : Str) : Bool := PySem.W.dataLe false datD (T.str x) (T.str y)
theorem srt_S (l : List Str) : Srt (l.map T.str) := by
  refine ⟨fun t ht => ?_, fun d hd d' hd' => ?_, .inr fun d hd => ?_, fun t ht => ?_⟩
  · obtain ⟨z, _, rfl⟩ := List.mem_map.mp ht; rfl
  · obtain ⟨k, hk, rfl⟩ := List.mem_map.mp hd
    obtain ⟨p, _, rfl⟩ := List.mem_map.mp hk
    obtain ⟨k, hk, rfl⟩ := List.mem_map.mp hd'
    obtain ⟨q, _, rfl⟩ := List.mem_map.mp hk
    rfl
  · obtain ⟨k, hk, rfl⟩ := List.mem_map.mp hd
    obtain ⟨p, _, rfl⟩ := List.mem_map.mp hk
    exact ⟨fun e => (nomatch e), fun xs e => (nomatch e)⟩
  · obtain ⟨z, _, rfl⟩ := List.mem_map.mp ht
    show (PyData.str z).depth ≤ 60
    simp [PyData.depth]
theorem collP {we : WE} {sl : List Sl} {Q : List T → Prop} {i : Nat} : ∀ (zs : List Str) (acc : List T), (∀ z ∈ zs, ∀ R : Sl → Prop, (∀ v, okV v → R (.val (sT (z, v)))) → we (sl.set i (.val (.str z))) R) → (∀ d : Dd, d.map (·.1) = zs → (∀ q ∈ d, okV q.2) → Q (acc ++ d.map sT)) → wColl (.name i) wYes we sl Q (zs.map T.str) acc
  | [], acc, _, q => by
    have := q [] rfl (fun u hu => by cases hu)
    rw [List.map_nil, List.append_nil] at this
    exact this
  | z :: r, acc, h, q => by
    refine ⟨_, rfl, ?_⟩
    show we (sl.set i (.val (.str z))) fun y => ∃ u, y = .val u ∧ wColl (.name i) wYes we sl Q (r.map T.str) (acc ++ [u])
    refine h z List.mem_cons_self _ fun v hv => ⟨_, rfl, collP r _ (fun m hm => h m (List.mem_cons_of_mem _ hm)) fun d hd hg => ?_⟩
    rw [List.append_assoc]
    exact q ((z, v) :: d) (by rw [List.map_cons, hd]) fun q hq => by
      rcases List.mem_cons.mp hq with g | g
      · rw [g]; exact hv
      · exact hg q g
end



open PySem PySem.Spec PyProof.Rows L2 Tr
variable [Tabl]
section
variable {P : Sl → Prop} {cN : Str → Addr}
theorem r_ascending {M : Dd} (hM : NdA M) (hl : M.length ≤ 20000) (p : P (.val (aT (srtA M)))) : w_ascending [.val (aT M)] P := by
  refine st_ascending ?_
  (repeat left)
  refine x_sortKv (srtK_A M) ?_
  rw [show kk M = (M.map (·.1)).map Sum.inr from kk_of M, sortK_S, show (((M.map (·.1)).mergeSort SG.strLe).map Sum.inr).map keyW = ((M.map (·.1)).mergeSort SG.strLe).map T.str by rw [List.map_map]; rfl]
  (repeat left)
  have pm := List.mergeSort_perm (M.map (·.1)) SG.strLe
  have hz : ((M.map (·.1)).mergeSort SG.strLe).length = M.length := by rw [pm.length_eq, List.length_map]
  refine ⟨by rw [List.length_map]; omega, ?_⟩
  refine dc_map (t := T.str) (sl' := fun z => [.val (aT M), .val (.str z)]) (n := fun z => .inr z) (d := fun z => oT ((look M z).getD none)) _ [] [] ?_ ?_ ?_ ?_ ?_
  · intro z hz; rfl
  · intro z hz R hR; exact hR
  · intro z hz R hR
    (repeat left)
    exact hR _ rfl
  · intro z hz R hR
    have hg : getK (kk M) (vv M) (.inr z) = some (oT ((look M z).getD none)) := by
      rw [getK_A]
      cases e : look M z with
      | none => exact (look_none.mp e (pm.mem_iff.mp hz)).elim
      | some w => rfl
    (repeat left)
    refine x_dgetv (fun q => nomatch q) rfl rfl hg ?_
    exact hR
  · have e : layK (((M.map (·.1)).mergeSort SG.strLe).map fun z => ((.inr z : Key), oT ((look M z).getD none))) [] [] = (kk (srtA M), vv (srtA M)) := by
      have h := lay_A (srtA M) []
      rw [lay_nd (B := srtA M) (A := []) (by
        unfold NdA
        rw [List.nil_append, srtA_keys]
        exact pm.nodup_iff.mpr hM), List.nil_append] at h
      rw [← h]
      congr 1
      unfold srtA
      rw [List.map_map]; rfl
    rw [e]
    (repeat left)
    exact p
theorem r_done_on {ds : List Dd} (hh : ∀ d ∈ ds, okD d) (hl : ds.length ≤ 1500) (p : ∀ S, Sd S (curs (fun _ => none) ds) → S.length ≤ 6 * ds.length → P (.val (aT S))) : w_done_on [.val (aT []), .val (hT ds)] P := by
  refine st_done_on ?_
  (repeat left)
  rename_i l
  refine for_inv (fun rest sl => ∃ (r : List Dd) (cur : Str → Option Int) (M : Dd) (a b c : Sl), rest = r.map dT ∧ sl = [.val (aT []), .val (hT ds), .ownd l (kk M) (vv M), a, b, c] ∧ curs (fun _ => none) ds = curs cur r ∧ Ex M cur ∧ (∀ d ∈ r, d ∈ ds) ∧ M.length + 6 * r.length ≤ 6 * ds.length) ?_ ?_ _ _ ⟨ds, fun _ => none, [], .any, .any, .any, rfl, rfl, rfl, ⟨NdA.nil, fun _ => rfl, fun p h => (by cases h)⟩, fun _ h => h, by rw [List.length_nil]; omega⟩
  · rintro sl ⟨r, cur, M, a, b, c, e1, rfl, e2, hM, _, hb⟩
    cases r with
    | cons x r => cases e1
    | nil =>
      rw [List.length_nil] at hb
      have e2 : curs (fun _ => none) ds = cur := e2
      rw [e2] at p
      (repeat left)
      refine r_ascending hM.nd (by omega) ?_
      (repeat left)
      refine p _ hM.srt ?_
      have : (srtA M).length = M.length := by
        unfold srtA
        rw [List.length_map, (List.mergeSort_perm _ _).length_eq, List.length_map]
      omega
  · rintro t rest sl N ⟨r, cur, M, a, b, c, e1, rfl, e2, hM, hm, hb⟩ hN
    cases r with
    | nil => cases e1
    | cons x r =>
      rw [List.map_cons] at e1
      injection e1 with e1 e4
      subst e1
      rw [List.length_cons] at hb
      have hx := hh x (hm x List.mem_cons_self)
      have hx6 := hx.l6
      refine ⟨_, rfl, ?_⟩
      (repeat left)
      refine for_inv (fun rest sl => ∃ (r2 : Dd) (cu : Str → Option Int) (M : Dd) (b c : Sl), rest = r2.map sT ∧ sl = [.val (aT []), .val (hT ds), .ownd l (kk M) (vv M), .val (dT x), b, c] ∧ (∀ k, vd (cur k) x k = vd (cu k) r2 k) ∧ Ex M cu ∧ (∀ p ∈ r2, p ∈ x) ∧ M.length + r2.length + 6 * r.length ≤ 6 * ds.length) ?_ ?_ _ _ ⟨x, cur, M, b, c, rfl, rfl, fun _ => rfl, hM, fun _ h => h, by omega⟩
      · rintro sl ⟨r2, cu, M, b, c, g1, rfl, g2, hM, _, hb⟩
        cases r2 with
        | cons x r => cases g1
        | nil =>
          have g2 : (fun k => vd (cur k) x k) = cu := funext g2
          subst g2
          exact hN _ ⟨r, _, M, .val (dT x), b, c, e4, rfl, e2, hM, fun d h => hm d (List.mem_cons_of_mem _ h), by rw [List.length_nil] at hb; omega⟩
      · rintro t2 rest2 sl N2 ⟨r2, cu, M, b, c, g1, rfl, g2, hM, gm, hb⟩ hN2
        cases r2 with
        | nil => cases g1
        | cons y r2 =>
          rw [List.map_cons] at g1
          injection g1 with g1 g4
          subst g1
          rw [List.length_cons] at hb
          have hy := (hx.ok y (gm y List.mem_cons_self)).v
          refine ⟨_, rfl, ?_⟩
          cases h2 : y.2 with
          | none =>
            (repeat left)
            simp only [oT]
            (repeat left)
            refine x_dpop rfl ?_
            (repeat left)
            refine ⟨_, _, _, rfl, rfl, rfl, ?_⟩
            rw [dropKs_A, dropVs_A]
            refine hN2 _ ⟨r2, _, drA y.1 M, _, _, g4, rfl, fun k => ?_, hM.dr, fun p hp => gm p (List.mem_cons_of_mem _ hp), by have := drA_len (z := y.1) (A := M); omega⟩
            rw [g2 k]
            show vd (if y.1 = k then y.2 else cu k) r2 k = _
            rw [h2]
          | some i =>
            rw [h2] at hy
            (repeat left)
            simp only [oT]
            (repeat left)
            rw [putKs_A (v := some i), show T.int i = oT (some i) from rfl, putVs_A]
            refine hN2 _ ⟨r2, _, putA y.1 (some i) M, _, _, g4, rfl, fun k => ?_, hM.put hy, fun p hp => gm p (List.mem_cons_of_mem _ hp), by have := put_len (A := M) (z := y.1) (v := some i); omega⟩
            rw [g2 k]
            show vd (if y.1 = k then y.2 else cu k) r2 k = _
            rw [h2]
theorem ixT_last {V : List T} {v : T} (h : V.getLast? = some v) : ixT (.lst V) (.int (-1)) = some v := by
  obtain ⟨a, rfl⟩ : ∃ a, V = a ++ [v] := by
    rcases ends V with rfl | ⟨a, x, rfl⟩
    · cases h
    · rw [List.getLast?_concat] at h
      injection h with h
      exact ⟨a, by rw [h]⟩
  exact ix_last
end


open PySem PySem.Spec PyProof.Rows L2 Tr
variable [Tabl]
section
variable {P : Sl → Prop} {cN : Str → Addr}
theorem asc_of : ∀ {zs : List Str}, (zs.Pairwise fun a b => SG.strLe a b = true) → zs.Nodup → asc zs = true
  | [], _, _ => rfl
  | [x], _, _ => rfl
  | x :: y :: zs, h, n => by
    obtain ⟨h1, h2⟩ := List.pairwise_cons.mp h
    obtain ⟨n1, n2⟩ := List.nodup_cons.mp n
    have ih := asc_of h2 n2
    unfold asc at ih ⊢
    show (decide (x.cps.toList < y.cps.toList) && (List.zipWith _ (y :: zs) zs).all id) = true
    rw [decide_eq_true (lt_of (h1 y List.mem_cons_self) fun e => n1 (e ▸ List.mem_cons_self))]
    exact ih
theorem pow12 : powT (.int 10) (.int 12) = some (.int 1000000000000) := by rfl
theorem r__law_ds_value (p : ∀ v, okV v → P (.val (oT v))) : w__law_ds_value [.dice] P := by
  have pn := p none fun i e => by cases e
  have pi : ∀ i : Int, -999999999999 ≤ i → i ≤ 999999999999 → P (.val (.int i)) := fun i h1 h2 => p (some i) fun j e => by injection e with e; subst e; exact ⟨h1, h2⟩
  refine st__law_ds_value ?_
  (repeat left)
  refine x_op2 pow12 ?_
  (repeat left)
  refine x_op2 pow12 ?_
  (repeat left)
  refine r__law_roll (n := 9) (by decide) (by decide) fun r r0 r1 => ?_
  (repeat left)
  refine r_pick_lst (Nat.succ_pos _) (show 9 ≤ 1000 by decide) fun t ht => ?_
  simp only [List.mem_cons, List.not_mem_nil, or_false] at ht
  rcases ht with rfl | rfl | rfl | rfl | rfl | rfl | rfl | rfl | rfl
  · (repeat left); exact pn
  · (repeat left); exact pn
  · (repeat left); exact pi _ (by decide) (by decide)
  · (repeat left); exact pi _ (by decide) (by decide)
  · (repeat left); exact pi _ (by decide) (by decide)
  · (repeat left); exact pi _ (by decide) (by decide)
  · (repeat left); exact pi _ (by decide) (by decide)
  · (repeat left); exact pi _ (by decide) (by decide)
  · (repeat left); exact pi _ (by omega) (by omega)
theorem r__law_ds_deed {names : List Str} (hn : names.Nodup) (hk : ∀ z ∈ names, okKey z = true) (h1 : 1 ≤ names.length) (h9 : names.length ≤ 100) (p : ∀ d, okD d → (∀ q ∈ d, q.1 ∈ names) → P (.val (dT d))) : w__law_ds_deed [.dice, .val (.lst (names.map T.str))] P := by
  refine st__law_ds_deed ?_
  (repeat left)
  refine r__law_shuffled (f := T.str) (as := names) (by omega) fun bs hb => ?_
  (repeat left)
  refine r__law_roll (by decide) (by decide) fun n n0 n1 => ?_
  obtain ⟨n, rfl⟩ := Int.eq_ofNat_of_zero_le n0
  (repeat left)
  have e5 : cutT (bs.map T.str) none (some (1 + (n : Nat) : Int)) = (bs.take (n + 1)).map T.str := by
    rw [show (1 + (n : Nat) : Int) = ((n + 1 : Nat) : Int) by omega, cut_take, List.map_take]
  rw [e5]
  refine x_sortv (srt_S _) ?_
  rw [sortT_S]
  have pm := List.mergeSort_perm (bs.take (n + 1)) SG.strLe
  have sm := SG.sorted_ms (bs.take (n + 1))
  have nd : ((bs.take (n + 1)).mergeSort SG.strLe).Nodup := pm.nodup_iff.mpr ((hb.nodup_iff.mpr hn).sublist (List.take_sublist _ _))
  have hl : ((bs.take (n + 1)).mergeSort SG.strLe).length = min (n + 1) names.length := by rw [pm.length_eq, List.length_take, hb.length_eq]
  have hm : ∀ z ∈ (bs.take (n + 1)).mergeSort SG.strLe, z ∈ names := fun z hz => hb.mem_iff.mp (List.mem_of_mem_take (pm.mem_iff.mp hz))
  generalize (bs.take (n + 1)).mergeSort SG.strLe = zs at sm nd hl hm ⊢
  (repeat left)
  refine ⟨by rw [List.length_map]; omega, ?_⟩
  refine collP zs [] (fun z hz R hR => ?_) fun d h1 h2 => ?_
  · (repeat left)
    refine r__law_ds_value fun v hv => ?_
    (repeat left)
    exact hR v hv
  · rw [List.nil_append]
    (repeat left)
    have hlen : d.length = zs.length := by rw [← h1, List.length_map]
    refine p d ⟨by omega, by omega, fun q hq => ⟨hk _ (hm _ (h1 ▸ List.mem_map.mpr ⟨q, hq, rfl⟩)), h2 q hq⟩, h1 ▸ asc_of sm nd⟩ fun q hq => hm _ (h1 ▸ List.mem_map.mpr ⟨q, hq, rfl⟩)
theorem cutM_sd {M : Dd} {cur : Str → Option Int} (hM : NdA M) (h : ∀ z, (look M z).getD none = cur z) (ok : ∀ p ∈ M, okV p.2) : Sd (cutM M ((M.map (·.1)).mergeSort SG.strLe)) cur := by
  have st := cutM_st hM (List.mergeSort_perm (M.map (·.1)) SG.strLe) h ok
  have hs : ∀ q ∈ cutM M ((M.map (·.1)).mergeSort SG.strLe), q.2.isSome = true := fun q hq => by
    obtain ⟨z, hz, rfl⟩ := List.mem_map.mp hq
    exact (List.mem_filter.mp hz).2
  refine ⟨st.nd, fun z => ?_, st.ok, ?_⟩
  · have e := st.eq z
    cases q : look (cutM M ((M.map (·.1)).mergeSort SG.strLe)) z with
    | none => rw [q] at e; rw [← e]; rfl
    | some w =>
      rw [q] at e
      have hw := hs _ (st.nd.mem.mp q)
      rw [← e]
      cases w with
      | none => cases hw
      | some i => rfl
  · have hk : (cutM M ((M.map (·.1)).mergeSort SG.strLe)).map (·.1) = ((M.map (·.1)).mergeSort SG.strLe).filter (keep M) := by
      unfold cutM
      rw [List.map_map]
      exact List.map_id _
    rw [hk]
    exact (SG.sorted_ms _).filter _
theorem dp_A2 {S : Dd} (h : NdA S) (p : P (.val (aT S))) : ∃ ts kvt, [Sl.val (.lst (S.map sT))] = [.val (.lst ts)] ∧ pairsT ts = some kvt ∧ (kvt.map (·.1)).Nodup ∧ P (.val (.dct (kvt.map (·.1)) (kvt.map (·.2)))) := ⟨_, _, rfl, pairs_A S, by
  rw [List.map_map]
  exact List.pairwise_map.mpr ((List.pairwise_map.mp h).imp fun e g => e (Sum.inr.inj g)), by rw [List.map_map, List.map_map]; exact p⟩
def dpG (P : Sl → Prop) (xs : List Sl) : Prop := ∃ ts kvt, xs = [.val (.lst ts)] ∧ pairsT ts = some kvt ∧ (kvt.map (·.1)).Nodup ∧ P (.val (.dct (kvt.map (·.1)) (kvt.map (·.2))))
theorem x_dictP {a : WA} {sl : List Sl} (h : a sl fun xs => dpG P xs) : wDictP a sl P := h
theorem r_ds_done {S d : Dd} {cur : Str → Option Int} (h : Sd S cur) (hd : okD d) (hl : S.length ≤ 1000) (p : ∀ S', Sd S' (fun k => vd (cur k) d k) → S'.length ≤ S.length + 6 → P (.val (aT S'))) : w__law_ds_done [.val (aT S), .val (dT d)] P := by
  have h6 := hd.l6
  refine st__law_ds_done ?_
  (repeat left)
  rw [mkI_A]
  refine x_op2 (z := .lst ((S ++ d).map sT)) (by rw [List.map_append]; exact add_l (decide_eq_true (by rw [List.length_map, List.length_map]; omega))) ?_
  (repeat left)
  refine x_dictMv (pairs_A _) ?_
  have hlay := lay_A (S ++ d) []
  have hll := lay_len (B := S ++ d) (A := [])
  have hM : NdA (layA (S ++ d) []) := NdA.lay NdA.nil
  have hk : ∀ z, (look (layA (S ++ d) []) z).getD none = vd (cur z) d z := fun z => by
    rw [look_lay, last_app, last_vd]
    have e : lastO z (look [] z) S = look S z := by
      rw [last_nd h.nd]
      cases look S z <;> rfl
    rw [e, h.stt.eq]
  have hv : ∀ p ∈ layA (S ++ d) [], okV p.2 := fun p hp => by
    rcases lay_mem hp with g | g
    · rcases List.mem_append.mp g with g | g
      · exact h.ok p g
      · exact (hd.ok p g).v
    · cases g
  rw [show (layK ((S ++ d).map fun p => ((.inr p.1 : Key), oT p.2)) [] []).1 = _ from congrArg Prod.fst hlay, show (layK ((S ++ d).map fun p => ((.inr p.1 : Key), oT p.2)) [] []).2 = _ from congrArg Prod.snd hlay]
  show asgG _ _ _ (.val (aT (layA (S ++ d) [])))
  rw [List.length_append, List.length_nil] at hll
  generalize layA (S ++ d) [] = M at hM hk hv hll ⊢
  (repeat left)
  refine x_dictP ?_
  (repeat left)
  refine x_sortKv (srtK_A M) ?_
  rw [show kk M = (M.map (·.1)).map Sum.inr from kk_of M, sortK_S, show (((M.map (·.1)).mergeSort SG.strLe).map Sum.inr).map keyW = ((M.map (·.1)).mergeSort SG.strLe).map T.str by rw [List.map_map]; rfl]
  have pm := List.mergeSort_perm (M.map (·.1)) SG.strLe
  have st := cutM_sd hM hk hv
  generalize (M.map (·.1)).mergeSort SG.strLe = zs at pm st ⊢
  (repeat left)
  have hzl : zs.length = M.length := by rw [pm.length_eq, List.length_map]
  refine ⟨by rw [List.length_map]; omega, ?_⟩
  have hg : ∀ z ∈ zs, getK (kk M) (vv M) (.inr z) = some (oT ((look M z).getD none)) := fun z hz => by
    rw [getK_A]
    cases e : look M z with
    | none => exact (look_none.mp e (pm.mem_iff.mp hz)).elim
    | some w => rfl
  refine coll_fm (g := fun z => T.str z) (f := fun z => sT (z, (look M z).getD none)) (v := keep M) zs [] (fun z hz R hR => ?_) (fun z hz R hR => ?_) ?_
  · (repeat left)
    refine x_dgetv (fun q => nomatch q) rfl rfl (hg z hz) ?_
    unfold keep at hR
    cases e : (look M z).getD none <;> rw [e] at hR <;> simp only [oT] <;> (repeat left) <;> exact hR
  · (repeat left)
    refine x_dgetv (fun q => nomatch q) rfl rfl (hg z hz) ?_
    (repeat left)
    exact hR
  · rw [List.nil_append, show List.map (fun z => sT (z, (look M z).getD none)) (zs.filter (keep M)) = (cutM M zs).map sT by unfold cutM; rw [List.map_map]; rfl]
    (repeat left)
    refine dp_A2 st.nd (p _ st ?_)
    unfold cutM
    rw [List.length_map]
    have := List.length_filter_le (keep M) zs
    omega
/-- the states at all moments -/
def SSok (ds SS : List Dd) : Prop := SS.length = ds.length + 1 ∧ ∀ m, m ≤ ds.length → ∃ S, SS[m]? = some S ∧ Sd S (curs (fun _ => none) (ds.take m)) ∧ S.length ≤ 6 * m
theorem curs_snoc {cur : Str → Option Int} {ds : List Dd} {d : Dd} : curs cur (ds ++ [d]) = fun z => vd (curs cur ds z) d z := funext fun z => by
  unfold curs
  rw [List.foldl_append]; rfl
theorem r_ds_states {ds : List Dd} (hh : okH ds) (hl : ds.length ≤ 100) (p : ∀ SS : List Dd, SSok ds SS → P (.val (.lst (SS.map aT)))) : w__law_ds_states [.val (hT ds)] P := by
  refine st__law_ds_states ?_
  (repeat left)
  rename_i l
  refine for_inv (fun rest sl => ∃ (k : Nat) (SS : List Dd) (a : Sl), rest = (ds.drop k).map dT ∧ k ≤ ds.length ∧ sl = [.val (hT ds), .own l (SS.map aT), a] ∧ SS.length = k + 1 ∧ ∀ m, m ≤ k → ∃ S, SS[m]? = some S ∧ Sd S (curs (fun _ => none) (ds.take m)) ∧ S.length ≤ 6 * m) ?_ ?_ _ _ ⟨0, [[]], .any, by rw [List.drop_zero], Nat.zero_le _, rfl, rfl, fun m hm => ⟨[], by rw [Nat.le_zero.mp hm]; rfl, by rw [Nat.le_zero.mp hm]; exact Sd.nil, Nat.zero_le _⟩⟩
  · rintro sl ⟨k, SS, a, e1, hk, rfl, e2, hS⟩
    have hk2 : k = ds.length := by
      have : (ds.drop k).length = 0 := by
        have := congrArg List.length e1
        rw [List.length_map] at this
        exact this.symm
      rw [List.length_drop] at this
      omega
    subst hk2
    (repeat left)
    exact p SS ⟨e2, hS⟩
  · rintro t rest sl N ⟨k, SS, a, e1, hk, rfl, e2, hS⟩ hN
    have hk2 : k < ds.length := by
      refine Nat.lt_of_not_le fun z => ?_
      rw [List.drop_of_length_le z] at e1; cases e1
    rw [List.drop_eq_getElem_cons hk2, List.map_cons] at e1
    injection e1 with e1 e4
    subst e1
    obtain ⟨S, g1, g2, g3⟩ := hS k (Nat.le_refl _)
    refine ⟨_, rfl, ?_⟩
    (repeat left)
    refine x_op2 (ixT_last (v := aT S) (by rw [List.getLast?_map, List.getLast?_eq_getElem?, e2, Nat.add_sub_cancel, g1]; rfl)) ?_
    (repeat left)
    refine r_ds_done g2 (hh.ok _ (List.getElem_mem hk2)) (by omega) fun S' h1 h2 => ?_
    (repeat left)
    have q := hN _ ⟨k + 1, SS ++ [S'], .val (dT ds[k]), e4, hk2, rfl, by rw [List.length_append, e2]; rfl, fun m hm => ?_⟩
    · rw [List.map_append] at q
      exact q
    · by_cases e : m = k + 1
      · subst e
        refine ⟨S', by rw [List.getElem?_append_right (by omega), e2, Nat.sub_self]; rfl, ?_, by omega⟩
        rw [List.take_add_one, List.getElem?_eq_getElem hk2, Option.toList, curs_snoc]
        exact h1
      · obtain ⟨S2, g4, g5, g6⟩ := hS m (by omega)
        exact ⟨S2, by rw [List.getElem?_append_left (by omega)]; exact g4, g5, g6⟩
end


open PySem PySem.Spec PyProof.Rows L2 Tr
variable [Tabl]
section
variable {P : Sl → Prop} {cN : Str → Addr}
theorem r_is_pairs {S : Dd} {cur : Str → Option Int} (h : Sd S cur) (hk : ∀ q ∈ S, okKey q.1 = true) (hl : S.length ≤ 1000) (p : P (B true)) : w_is_pairs [.val (aT S)] P := by
  refine st_is_pairs ?_
  (repeat left)
  refine ⟨by rw [mkI_A, List.length_map]; omega, ?_⟩
  rw [mkI_A]
  refine collF2 (g1 := fun p : Str × Option Int => .str p.1) (g2 := fun p => oT p.2) (f := fun _ => .bl true) S [] (fun a ha R hR => ?_) ?_
  · (repeat left)
    refine r_key (hk a ha) ?_
    (repeat left)
    obtain ⟨_, h2⟩ := h.val a ha
    have hv := h.ok a ha
    cases h3 : a.2 with
    | none => rw [h3] at h2; cases h2
    | some i =>
      rw [h3] at hv
      have := hv i rfl
      refine r_is_value rfl (B_eq hR ?_)
      show _ = (decide (-999999999999 ≤ i) && decide (i ≤ 999999999999))
      rw [decide_eq_true this.1, decide_eq_true this.2]; rfl
  · rw [List.nil_append]
    (repeat left)
    refine ⟨_, _, rfl, all_true, ?_⟩
    (repeat left)
    exact p
theorem r_need_pairs {S : Dd} {cur : Str → Option Int} (h : Sd S cur) (hk : ∀ q ∈ S, okKey q.1 = true) (hl : S.length ≤ 1000) (p : P (.val .non)) : w_need_pairs [.val (aT S)] P := by
  refine st_need_pairs ?_
  (repeat left)
  refine r_is_pairs h hk hl ?_
  (repeat left)
  exact p
theorem r_unlike {S S' : Dd} {cur cur' : Str → Option Int} (h : Sd S cur) (h' : Sd S' cur') (hk : ∀ q ∈ S, okKey q.1 = true) (hk' : ∀ q ∈ S', okKey q.1 = true) (hl : S.length ≤ 15) (hl' : S'.length ≤ 15)
    (p : P (.val (.tup (((SG.sortS (S.map (·.1) ++ S'.map (·.1))).filter fun z => !decide (cur z = cur' z)).map T.str)))) : w_unlike_keys [.val (aT S), .val (aT S')] P := by
  refine st_unlike_keys ?_
  (repeat left)
  refine r_need_pairs h hk (by omega) ?_
  (repeat left)
  refine r_need_pairs h' hk' (by omega) ?_
  (repeat left)
  rw [show (kk S).map keyW = (S.map (·.1)).map T.str by rw [List.map_map, List.map_map]; rfl]
  refine ⟨S.map (·.1), rfl, by rw [List.length_map]; omega, ?_⟩
  (repeat left)
  rw [show (kk S').map keyW = (S'.map (·.1)).map T.str by rw [List.map_map, List.map_map]; rfl]
  refine x_srtUv (by rw [List.length_map]; omega) (by rw [List.length_map]; omega) ?_
  (repeat left)
  have hs := SG.sortS_len (S.map (·.1) ++ S'.map (·.1))
  rw [List.length_append, List.length_map, List.length_map] at hs
  refine ⟨by rw [List.length_map]; omega, ?_⟩
  refine coll_fm (g := T.str) (f := T.str) (v := fun z => !decide (cur z = cur' z)) _ [] (fun z hz R hR => ?_) (fun z hz R hR => ?_) ?_
  · (repeat left)
    rw [getD_A, getD_A, h.vD, h'.vD]
    refine x_op2 ne_o ?_
    (repeat left)
    exact hR
  · (repeat left)
    exact hR
  · rw [List.nil_append]
    (repeat left)
    exact p
end

end My


set_option Elab.async false
set_option linter.all false
set_option maxRecDepth 100000
set_option maxHeartbeats 0
namespace My
open PySem PySem.Spec PyProof.Rows L2 Tr
variable [Tabl]

open PySem PySem.Spec PyProof.Rows L2 Tr
variable [Tabl]
theorem eqvAll_len : ∀ {xs ys : List PyData}, xs.length ≠ ys.length → PyData.eqvAll xs ys = false
  | [], [], h => (h rfl).elim
  | [], y :: ys, _ => by simp only [PyData.eqvAll]
  | x :: xs, [], _ => by simp only [PyData.eqvAll]
  | x :: xs, y :: ys, h => by
    simp only [PyData.eqvAll]
    rw [eqvAll_len (xs := xs) (ys := ys) (fun e => h (by rw [List.length_cons, List.length_cons, e])), Bool.and_false]
theorem datAll_len : ∀ {ts : List T} {ds : List PyData}, datAll ts = some ds → ds.length = ts.length
  | [], _, h => by simp only [datAll] at h; cases h; rfl
  | t :: ts, _, h => by
    simp only [datAll] at h
    obtain ⟨d, _, h⟩ := Option.bind_eq_some_iff.mp h
    obtain ⟨ds, e, rfl⟩ := Option.map_eq_some_iff.mp h
    rw [List.length_cons, List.length_cons, datAll_len e]
theorem eqB_len {as bs : List T} (h1 : sh 8 (.tup as) = true) (h2 : sh 8 (.tup bs) = true) (n : as.length ≠ bs.length) : eqB (.tup as) (.tup bs) = false := by
  obtain ⟨d, e, _, _⟩ := sh_dat 8 _ h1
  obtain ⟨d', e', _, _⟩ := sh_dat 8 _ h2
  unfold eqB
  rw [e, e']
  simp only [dat] at e e'
  obtain ⟨xs, e1, rfl⟩ := Option.map_eq_some_iff.mp e
  obtain ⟨ys, e2, rfl⟩ := Option.map_eq_some_iff.mp e'
  simp only [PyData.eqv]
  exact eqvAll_len (by rw [datAll_len e1, datAll_len e2]; exact n)
section
variable {P : Sl → Prop} {cN : Str → Addr}
theorem sh_up {z : Str} (h : sh 8 (.str z) = true) (n : Nat) : sh n (.str z) = true := by
  cases n <;> exact h
theorem sh_sT {p : Str × Option Int} (h : okP p) (n : Nat) : sh (n + 1) (sT p) = true := by
  show (([T.str p.1, oT p.2] : List T).all fun t => sh n t) = true
  rw [List.all_cons, List.all_cons, List.all_nil, sh_up (okKey_sh h.k) n, Bool.and_true, Bool.true_and]
  cases p.2 <;> cases n <;> rfl
theorem sh_dT {d : Dd} (h : okD d) (n : Nat) : sh (n + 2) (dT d) = true := by
  show ((d.map sT).all fun t => sh (n + 1) t) = true
  rw [List.all_map, List.all_eq_true]
  exact fun p hp => sh_sT (h.ok p hp) n
/-! texts of small numbers -/
def txAll : Bool := (List.range 100).all fun n => decide (((toString (n : Int) : String) : Str).length ≤ 10) && ((toString (n : Int) : String) : Str).cps.all (· < 0x110000)
abbrev t1 : Str := "history of "
abbrev t2 : Str := " deeds, "
abbrev t3 : Str := " keys"
/-- the text of a history -/
def hisS (n k : Nat) : Str := t1 ++ (toString (n : Int) : String) ++ t2 ++ (toString (k : Int) : String) ++ t3
theorem r_need_deed {d : Dd} (hd : okD d) (p : P (.val .non)) : w_need_deed [.val (dT d)] P := by
  refine st_need_deed ?_
  (repeat left)
  refine r_is_deed (fitD_d hd) (B_eq (b := true) ?_ (Eq.symm (deed_ok hd)))
  (repeat left)
  exact p
end


open PySem PySem.Spec PyProof.Rows L2 Tr
variable [Tabl]
section
variable {P : Sl → Prop} {cN : Str → Addr}
theorem nodup_len : ∀ {l D : List Str}, l.Nodup → (∀ x ∈ l, x ∈ D) → l.length ≤ D.length
  | [], _, _, _ => Nat.zero_le _
  | x :: l, D, h, m => by
    obtain ⟨h1, h2⟩ := List.nodup_cons.mp h
    have hx := m x List.mem_cons_self
    have ih := nodup_len (l := l) (D := D.erase x) h2 fun y hy => (List.mem_erase_of_ne fun e => h1 (by rw [← e]; exact hy)).mpr (m y (List.mem_cons_of_mem _ hy))
    rw [List.length_erase_of_mem hx] at ih
    have : 0 < D.length := List.length_pos_of_mem hx
    rw [List.length_cons]
    omega
theorem vd_key {z : Str} : ∀ {d : Dd} {v : Option Int}, vd v d z ≠ v → ∃ p ∈ d, p.1 = z
  | [], _, h => (h rfl).elim
  | p :: d, v, h => by
    by_cases e : p.1 = z
    · exact ⟨p, List.mem_cons_self, e⟩
    · have h : vd (if p.1 = z then p.2 else v) d z ≠ v := h
      rw [if_neg e] at h
      obtain ⟨q, hq, e2⟩ := vd_key h
      exact ⟨q, List.mem_cons_of_mem _ hq, e2⟩
theorem curs_key {z : Str} : ∀ {ds : List Dd} {cur : Str → Option Int}, curs cur ds z ≠ cur z → ∃ d ∈ ds, ∃ p ∈ d, p.1 = z
  | [], _, h => (h rfl).elim
  | d :: ds, cur, h => by
    by_cases e : vd (cur z) d z = cur z
    · have h : curs (fun k => vd (cur k) d k) ds z ≠ cur z := h
      obtain ⟨d2, h2, q⟩ := curs_key (ds := ds) (cur := fun k => vd (cur k) d k) (fun g => h (g.trans e))
      exact ⟨d2, List.mem_cons_of_mem _ h2, q⟩
    · obtain ⟨p, hp, e2⟩ := vd_key e
      exact ⟨d, List.mem_cons_self, p, hp, e2⟩
/-- deeds on some keys -/
def On (names : List Str) (ds : List Dd) : Prop := ∀ d ∈ ds, ∀ p ∈ d, p.1 ∈ names
theorem Sd.on {S : Dd} {names : List Str} {ds : List Dd} (h : Sd S (curs (fun _ => none) ds)) (o : On names ds) : ∀ q ∈ S, q.1 ∈ names := fun q hq => by
  have := (h.keys q.1).mp (List.mem_map.mpr ⟨q, hq, rfl⟩)
  obtain ⟨d, hd, p, hp, e⟩ := curs_key this
  exact e ▸ o d hd p hp
theorem Sd.few {S : Dd} {names : List Str} {ds : List Dd} (h : Sd S (curs (fun _ => none) ds)) (o : On names ds) : S.length ≤ names.length := by
  have := nodup_len h.nd fun x hx => by
    obtain ⟨q, hq, rfl⟩ := List.mem_map.mp hx
    exact h.on o q hq
  rwa [List.length_map] at this
theorem On.take {names : List Str} {ds : List Dd} (o : On names ds) (m : Nat) : On names (ds.take m) := fun d hd => o d (List.mem_of_mem_take hd)
end


open PySem PySem.Spec PyProof.Rows L2 Tr
variable [Tabl]
section
variable {P : Sl → Prop} {cN : Str → Addr}
def ns2 : List Str := ["a", "b"]
def ns3 : List Str := ["a", "b", "c"]
def ns9 : List Str := ["a", "abcdefgh", "b", "c", "d", "e", "key", "zz", "zzzzzzzz"]
structure NsOk (names : List Str) : Prop where
  nd : names.Nodup
  ok : ∀ z ∈ names, okKey z = true
  l1 : 1 ≤ names.length
  l9 : names.length ≤ 9
theorem ns_ok {names : List Str} (h : names ∈ [ns2, ns3, ns9]) : NsOk names := by
  simp only [List.mem_cons, List.not_mem_nil, or_false] at h
  rcases h with rfl | rfl | rfl
  · exact ⟨by decide +kernel, by decide +kernel, by decide, by decide⟩
  · exact ⟨by decide +kernel, by decide +kernel, by decide, by decide⟩
  · exact ⟨by decide +kernel, by decide +kernel, by decide, by decide⟩
theorem r__law_ds_keys (p : P (.val (.lst (ns9.map T.str)))) : w__law_ds_keys [] P := by
  refine st__law_ds_keys ?_
  (repeat left)
  exact p
theorem deeds_of {names : List Str} : ∀ {us : List T}, (∀ u ∈ us, ∃ d, u = dT d ∧ okD d ∧ ∀ q ∈ d, q.1 ∈ names) → ∃ ds : List Dd, us = ds.map dT ∧ (∀ d ∈ ds, okD d) ∧ On names ds
  | [], _ => ⟨[], rfl, (fun d h => by cases h), fun d h => by cases h⟩
  | u :: us, h => by
    obtain ⟨d, e, hd, ho⟩ := h u List.mem_cons_self
    obtain ⟨ds, e2, h2, o2⟩ := deeds_of fun v hv => h v (List.mem_cons_of_mem _ hv)
    exact ⟨d :: ds, by rw [e, e2]; rfl, fun c hc => (List.mem_cons.mp hc).elim (fun e => e ▸ hd) (h2 c), fun c hc => (List.mem_cons.mp hc).elim (fun e => e ▸ ho) (o2 c)⟩
theorem upL (a : Int) (n : Nat) : (Tr.upTo a n).length = n := by rw [upTo_map, List.length_map, List.length_range]
theorem vd_out {z : Str} : ∀ {d : Dd} {v : Option Int}, z ∉ d.map (·.1) → vd v d z = v
  | [], _, _ => rfl
  | p :: d, v, h => by
    rw [List.map_cons, List.mem_cons, not_or] at h
    show vd (if p.1 = z then p.2 else v) d z = v
    rw [if_neg (Ne.symm h.1)]
    exact vd_out h.2
theorem vd_in {q : Str × Option Int} : ∀ {d : Dd} {v : Option Int}, NdA d → q ∈ d → vd v d q.1 = q.2
  | [], _, _, h => by cases h
  | p :: d, v, n, h => by
    have n2 : p.1 ∉ d.map (·.1) ∧ NdA d := List.nodup_cons.mp n
    show vd (if p.1 = q.1 then p.2 else v) d q.1 = q.2
    rcases List.mem_cons.mp h with rfl | h
    · rw [if_pos rfl]
      exact vd_out n2.1
    · exact vd_in n2.2 h
def okVb (v : Option Int) : Bool := match v with
  | none => true
  | some i => decide (-999999999999 ≤ i) && decide (i ≤ 999999999999)
theorem okV_b {v : Option Int} (h : okVb v = true) : okV v := fun i e => by
  subst e
  have h : (decide (-999999999999 ≤ i) && decide (i ≤ 999999999999)) = true := h
  exact ⟨of_decide_eq_true ((Bool.and_eq_true .. ▸ h : _ ∧ _).1), of_decide_eq_true ((Bool.and_eq_true .. ▸ h : _ ∧ _).2)⟩
def okPs (d : Dd) : Bool := d.all fun p => okKey p.1 && okVb p.2
theorem okP_b {d : Dd} (h : okPs d = true) : ∀ p ∈ d, okP p := fun p hp => by
  have h := List.all_eq_true.mp h p hp
  exact ⟨(Bool.and_eq_true .. ▸ h : _ ∧ _).1, okV_b ((Bool.and_eq_true .. ▸ h : _ ∧ _).2)⟩
theorem okD_b {d : Dd} (h1 : 1 ≤ d.length) (h2 : d.length ≤ 6) (h3 : okPs d = true) (h4 : asc (d.map (·.1)) = true) : okD d := ⟨h1, h2, okP_b h3, h4⟩
abbrev ds1 : List Dd := [[("a", some 1), ("b", some 2)], [("a", none)], [("a", some 1), ("c", some (-5))]]
theorem ok1 : okH ds1 := ⟨by decide, fun d hd => by
  rcases List.mem_cons.mp hd with rfl | hd
  · exact okD_b (by decide) (by decide) (by decide +kernel) (by decide +kernel)
  rcases List.mem_cons.mp hd with rfl | hd
  · exact okD_b (by decide) (by decide) (by decide +kernel) (by decide +kernel)
  rw [List.mem_singleton.mp hd]
  exact okD_b (by decide) (by decide) (by decide +kernel) (by decide +kernel)⟩
theorem ok0 : okH [] := ⟨by decide, fun d hd => by cases hd⟩
def tl5 : List T := [aT [(("b" : Str), some 2)], .int 2, .non, pT (1, 3), pT (1, 1)]
end

end My


set_option Elab.async false
set_option linter.all false
set_option maxRecDepth 100000
set_option maxHeartbeats 0

namespace My
open PySem PySem.Spec PyProof.Rows L2 Tr
variable [Tabl]
section
variable {P : Sl → Prop} {cN : Str → Addr}
theorem Sd.ex {S : Dd} {cur : Str → Option Int} (h : Sd S cur) : Ex S cur := ⟨h.nd, h.eq, h.ok⟩
theorem r_done_on2 {S0 : Dd} {cur0 : Str → Option Int} (h0 : Sd S0 cur0) {ds : List Dd} (hh : ∀ d ∈ ds, okD d) (hl : ds.length ≤ 1500) (h1 : S0.length ≤ 1000) (p : ∀ S, Sd S (curs cur0 ds) → S.length ≤ S0.length + 6 * ds.length → P (.val (aT S))) : w_done_on [.val (aT S0), .val (hT ds)] P := by
  refine st_done_on ?_
  (repeat left)
  rename_i l
  refine for_inv (fun rest sl => ∃ (r : List Dd) (cur : Str → Option Int) (M : Dd) (a b c : Sl), rest = r.map dT ∧ sl = [.val (aT S0), .val (hT ds), .ownd l (kk M) (vv M), a, b, c] ∧ curs cur0 ds = curs cur r ∧ Ex M cur ∧ (∀ d ∈ r, d ∈ ds) ∧ M.length + 6 * r.length ≤ S0.length + 6 * ds.length) ?_ ?_ _ _ ⟨ds, cur0, S0, .any, .any, .any, rfl, rfl, rfl, h0.ex, fun _ h => h, Nat.le_refl _⟩
  · rintro sl ⟨r, cur, M, a, b, c, e1, rfl, e2, hM, _, hb⟩
    cases r with
    | cons x r => cases e1
    | nil =>
      rw [List.length_nil] at hb
      have e2 : curs cur0 ds = cur := e2
      rw [e2] at p
      (repeat left)
      refine r_ascending hM.nd (by omega) ?_
      (repeat left)
      refine p _ hM.srt ?_
      have : (srtA M).length = M.length := by
        unfold srtA
        rw [List.length_map, (List.mergeSort_perm _ _).length_eq, List.length_map]
      omega
  · rintro t rest sl N ⟨r, cur, M, a, b, c, e1, rfl, e2, hM, hm, hb⟩ hN
    cases r with
    | nil => cases e1
    | cons x r =>
      rw [List.map_cons] at e1
      injection e1 with e1 e4
      subst e1
      rw [List.length_cons] at hb
      have hx := hh x (hm x List.mem_cons_self)
      have hx6 := hx.l6
      refine ⟨_, rfl, ?_⟩
      (repeat left)
      refine for_inv (fun rest sl => ∃ (r2 : Dd) (cu : Str → Option Int) (M : Dd) (b c : Sl), rest = r2.map sT ∧ sl = [.val (aT S0), .val (hT ds), .ownd l (kk M) (vv M), .val (dT x), b, c] ∧ (∀ k, vd (cur k) x k = vd (cu k) r2 k) ∧ Ex M cu ∧ (∀ p ∈ r2, p ∈ x) ∧ M.length + r2.length + 6 * r.length ≤ S0.length + 6 * ds.length) ?_ ?_ _ _ ⟨x, cur, M, b, c, rfl, rfl, fun _ => rfl, hM, fun _ h => h, by omega⟩
      · rintro sl ⟨r2, cu, M, b, c, g1, rfl, g2, hM, _, hb⟩
        cases r2 with
        | cons x r => cases g1
        | nil =>
          have g2 : (fun k => vd (cur k) x k) = cu := funext g2
          subst g2
          exact hN _ ⟨r, _, M, .val (dT x), b, c, e4, rfl, e2, hM, fun d h => hm d (List.mem_cons_of_mem _ h), by rw [List.length_nil] at hb; omega⟩
      · rintro t2 rest2 sl N2 ⟨r2, cu, M, b, c, g1, rfl, g2, hM, gm, hb⟩ hN2
        cases r2 with
        | nil => cases g1
        | cons y r2 =>
          rw [List.map_cons] at g1
          injection g1 with g1 g4
          subst g1
          rw [List.length_cons] at hb
          have hy := (hx.ok y (gm y List.mem_cons_self)).v
          refine ⟨_, rfl, ?_⟩
          cases h2 : y.2 with
          | none =>
            (repeat left)
            simp only [oT]
            (repeat left)
            refine x_dpop rfl ?_
            (repeat left)
            refine ⟨_, _, _, rfl, rfl, rfl, ?_⟩
            rw [dropKs_A, dropVs_A]
            refine hN2 _ ⟨r2, _, drA y.1 M, _, _, g4, rfl, fun k => ?_, hM.dr, fun p hp => gm p (List.mem_cons_of_mem _ hp), by have := drA_len (z := y.1) (A := M); omega⟩
            rw [g2 k]
            show vd (if y.1 = k then y.2 else cu k) r2 k = _
            rw [h2]
          | some i =>
            rw [h2] at hy
            (repeat left)
            simp only [oT]
            (repeat left)
            rw [putKs_A (v := some i), show T.int i = oT (some i) from rfl, putVs_A]
            refine hN2 _ ⟨r2, _, putA y.1 (some i) M, _, _, g4, rfl, fun k => ?_, hM.put hy, fun p hp => gm p (List.mem_cons_of_mem _ hp), by have := put_len (A := M) (z := y.1) (v := some i); omega⟩
            rw [g2 k]
            show vd (if y.1 = k then y.2 else cu k) r2 k = _
            rw [h2]
theorem r_done {S d : Dd} {cur : Str → Option Int} (h : Sd S cur) (hk : ∀ q ∈ S, okKey q.1 = true) (hl : S.length ≤ 900) (hd : okD d) (p : ∀ S', Sd S' (fun k => vd (cur k) d k) → S'.length ≤ S.length + 6 → P (.val (aT S'))) : w_done [.val (aT S), .val (dT d)] P := by
  refine st_done ?_
  (repeat left)
  refine r_need_pairs h hk (by omega) ?_
  (repeat left)
  refine r_need_deed hd ?_
  (repeat left)
  refine r_done_on2 (ds := [d]) h (fun c hc => by rw [List.mem_singleton.mp hc]; exact hd) (show 1 ≤ 1500 by decide) (by omega) fun S' hS hl' => ?_
  (repeat left)
  have hl' : S'.length ≤ S.length + 6 * 1 := hl'
  refine x_ifb (fun g => ?_) (fun _ => ?_)
  · have g := of_decide_eq_true g
    rw [List.length_map] at g
    omega
  (repeat left)
  exact p S' hS hl'
theorem r_behind {ds : List Dd} (h : okH ds) (p : ∀ S, Sd S (curs (fun _ => none) ds) → S.length ≤ 6 * ds.length → P (.val (aT S))) : w_behind [.val (hT ds)] P := by
  refine st_behind ?_
  (repeat left)
  refine r__need_deeds h ?_
  (repeat left)
  refine r_done_on h.ok h.len fun S hS hl => ?_
  (repeat left)
  exact p S hS hl
/-- the keys that two states differ by -/
abbrev unl (S S' : Dd) (cur cur' : Str → Option Int) : List Str := (SG.sortS (S.map (·.1) ++ S'.map (·.1))).filter fun z => !decide (cur z = cur' z)
theorem r_ds_unlike {S S' : Dd} {cur cur' : Str → Option Int} (h : Sd S cur) (h' : Sd S' cur') (hl : S.length ≤ 15) (hl' : S'.length ≤ 15) (p : P (.val (.tup ((unl S S' cur cur').map T.str)))) : w__law_ds_unlike [.val (aT S), .val (aT S')] P := by
  refine st__law_ds_unlike ?_
  (repeat left)
  rw [show (kk S).map keyW ++ (kk S').map keyW = (S.map (·.1) ++ S'.map (·.1)).map T.str by rw [List.map_append, List.map_map, List.map_map, List.map_map, List.map_map]; rfl]
  refine x_srtSv (by rw [List.length_append, List.length_map, List.length_map]; omega) ?_
  (repeat left)
  have hs := SG.sortS_len (S.map (·.1) ++ S'.map (·.1))
  rw [List.length_append, List.length_map, List.length_map] at hs
  refine ⟨by rw [List.length_map]; omega, ?_⟩
  refine coll_fm (g := T.str) (f := T.str) (v := fun z => !decide (cur z = cur' z)) _ [] (fun z hz R hR => ?_) (fun z hz R hR => ?_) ?_
  · (repeat left)
    rw [getD_A, getD_A, h.vD, h'.vD]
    refine x_op2 ne_o ?_
    (repeat left)
    exact hR
  · (repeat left)
    exact hR
  · rw [List.nil_append]
    (repeat left)
    exact p
theorem rx_between {S S' : Dd} {cur cur' : Str → Option Int} {R : RX} (h : Sd S cur) (h' : Sd S' cur') (hk : ∀ q ∈ S, okKey q.1 = true) (hk' : ∀ q ∈ S', okKey q.1 = true) (hl : S.length ≤ 15) (hl' : S'.length ≤ 15)
    (p1 : 6 < (unl S S' cur cur').length → R (.ref (cN "TooMany")) (some ("limit", .int 6))) (p2 : unl S S' cur cur' = [] → P (.val .non))
    (p3 : (unl S S' cur cur').length ≤ 6 → unl S S' cur cur' ≠ [] → P (.val (dT ((unl S S' cur cur').map fun z => (z, cur' z))))) : wx_deed_between cN R [.val (aT S), .val (aT S')] P := by
  refine stx_deed_between ?_
  (repeat left)
  refine r_unlike h h' hk hk' hl hl' ?_
  (repeat left)
  unfold unl at p1 p2 p3
  generalize hU : ((SG.sortS (S.map (·.1) ++ S'.map (·.1))).filter fun z => !decide (cur z = cur' z)) = U at p1 p2 p3 ⊢
  refine x_ifb (fun g => ?_) (fun g => ?_)
  · have g := of_decide_eq_true g
    rw [List.length_map] at g
    (repeat left)
    exact p1 (by omega)
  have g := of_decide_eq_false g
  rw [List.length_map] at g
  (repeat left)
  cases U with
  | nil =>
    (repeat left)
    exact p2 rfl
  | cons u U =>
    refine x_ifv (r := false) rfl (x_iff ?_)
    (repeat left)
    refine ⟨by rw [List.length_map]; omega, ?_⟩
    refine coll_fm (g := T.str) (f := fun z => sT (z, cur' z)) (v := fun _ => true) (u :: U) [] (fun z hz R hR => ?_) (fun z hz R hR => ?_) ?_
    · exact hR
    · (repeat left)
      rw [getD_A, h'.vD]
      (repeat left)
      exact hR
    · rw [List.nil_append, List.filter_eq_self.mpr fun _ _ => rfl]
      (repeat left)
      have := p3 (by omega) (by simp)
      rw [show (List.map (fun z => sT (z, cur' z)) (u :: U)) = ((u :: U).map fun z => (z, cur' z)).map sT by rw [List.map_map]; rfl]
      exact this
theorem r_between {S S' : Dd} {cur cur' : Str → Option Int} (h : Sd S cur) (h' : Sd S' cur') (hk : ∀ q ∈ S, okKey q.1 = true) (hk' : ∀ q ∈ S', okKey q.1 = true) (hl : S.length ≤ 15) (hl' : S'.length ≤ 15)
    (p1 : (unl S S' cur cur').length ≤ 6) (p2 : unl S S' cur cur' = [] → P (.val .non))
    (p3 : unl S S' cur cur' ≠ [] → P (.val (dT ((unl S S' cur cur').map fun z => (z, cur' z))))) : w_deed_between [.val (aT S), .val (aT S')] P := by
  refine st_deed_between ?_
  (repeat left)
  refine r_unlike h h' hk hk' hl hl' ?_
  (repeat left)
  unfold unl at p1 p2 p3
  generalize hU : ((SG.sortS (S.map (·.1) ++ S'.map (·.1))).filter fun z => !decide (cur z = cur' z)) = U at p1 p2 p3 ⊢
  refine x_ifb (fun g => ?_) (fun g => ?_)
  · have g := of_decide_eq_true g
    rw [List.length_map] at g
    omega
  have g := of_decide_eq_false g
  rw [List.length_map] at g
  (repeat left)
  cases U with
  | nil =>
    (repeat left)
    exact p2 rfl
  | cons u U =>
    refine x_ifv (r := false) rfl (x_iff ?_)
    (repeat left)
    refine ⟨by rw [List.length_map]; omega, ?_⟩
    refine coll_fm (g := T.str) (f := fun z => sT (z, cur' z)) (v := fun _ => true) (u :: U) [] (fun z hz R hR => ?_) (fun z hz R hR => ?_) ?_
    · exact hR
    · (repeat left)
      rw [getD_A, h'.vD]
      (repeat left)
      exact hR
    · rw [List.nil_append, List.filter_eq_self.mpr fun _ _ => rfl]
      (repeat left)
      have := p3  (by simp)
      rw [show (List.map (fun z => sT (z, cur' z)) (u :: U)) = ((u :: U).map fun z => (z, cur' z)).map sT by rw [List.map_map]; rfl]
      exact this
end
end My


set_option Elab.async false
set_option linter.all false
set_option maxRecDepth 100000
set_option maxHeartbeats 0

local macro_rules | `(tactic| left) => `(tactic| first
  | with_reducible refine Tr.x_try ?_
  | with_reducible refine Tr.x_asgX ?_)
namespace My
open PySem PySem.Spec PyProof.Rows L2 Tr
variable [Tabl]
section
variable {P : Sl → Prop} {cN : Str → Addr} {em : Value → Value → Option Bool}
/-! what deeds do to a key -/
theorem vd_any {q : Str} : ∀ {d : Dd} {v w : Option Int}, q ∈ d.map (·.1) → vd v d q = vd w d q
  | [], _, _, h => by cases h
  | p :: d, v, w, h => by
    show vd (if p.1 = q then p.2 else v) d q = vd (if p.1 = q then p.2 else w) d q
    by_cases e : p.1 = q
    · rw [if_pos e, if_pos e]
    · rw [if_neg e, if_neg e]
      rw [List.map_cons, List.mem_cons] at h
      exact vd_any (h.resolve_left fun g => e g.symm)
theorem vd_idem {d : Dd} {v : Option Int} {k : Str} : vd (vd v d k) d k = vd v d k := by
  by_cases h : k ∈ d.map (·.1)
  · exact vd_any h
  · rw [vd_out h]
theorem vd_later {d e : Dd} {v : Option Int} {k : Str} (h : d.map (·.1) = e.map (·.1)) : vd (vd v d k) e k = vd v e k := by
  by_cases g : k ∈ e.map (·.1)
  · exact vd_any g
  · rw [vd_out (d := d) (by rw [h]; exact g)]
theorem vd_comm {d e : Dd} {v : Option Int} {k : Str} (h : ∀ p ∈ d, ∀ q ∈ e, p.1 ≠ q.1) : vd (vd v d k) e k = vd (vd v e k) d k := by
  by_cases g : k ∈ d.map (·.1)
  · have g2 : k ∉ e.map (·.1) := fun g2 => by
      obtain ⟨p, hp, e1⟩ := List.mem_map.mp g
      obtain ⟨q, hq, e2⟩ := List.mem_map.mp g2
      exact h p hp q hq (e1.trans e2.symm)
    rw [vd_out g2, vd_out g2]
  · rw [vd_out g, vd_out g]
theorem key_in {S S' : Dd} {cur cur' : Str → Option Int} (h : Sd S cur) (h' : Sd S' cur') {z : Str} (n : cur z ≠ cur' z) : z ∈ S.map (·.1) ++ S'.map (·.1) := by
  rw [List.mem_append, h.keys, h'.keys]
  by_cases e : cur z = none
  · exact .inr fun g => n (e.trans g.symm)
  · exact .inl e
theorem mem_unl {S S' : Dd} {cur cur' : Str → Option Int} (h : Sd S cur) (h' : Sd S' cur') {z : Str} : z ∈ unl S S' cur cur' ↔ cur z ≠ cur' z := by
  rw [List.mem_filter, SG.mem_sortS, Bool.not_eq_true', decide_eq_false_iff_not]
  exact ⟨fun g => g.2, fun g => ⟨key_in h h' g, g⟩⟩
/-- the deed between two states leads from the one to the other -/
theorem vd_unl {U : List Str} {cur cur' : Str → Option Int} (hn : U.Nodup) (h : ∀ z, z ∈ U ↔ cur z ≠ cur' z) (k : Str) : vd (cur k) (U.map fun z => (z, cur' z)) k = cur' k := by
  by_cases g : k ∈ U
  · have e : (k, cur' k) ∈ U.map fun z => (z, cur' z) := List.mem_map.mpr ⟨k, g, rfl⟩
    have nd : NdA (U.map fun z => (z, cur' z)) := by
      unfold NdA
      rw [List.map_map]
      exact (List.map_id _).symm ▸ hn
    exact vd_in (q := (k, cur' k)) nd e
  · rw [vd_out (by rw [List.map_map]; exact (List.map_id _).symm ▸ g)]
    exact Decidable.not_not.mp fun n => g ((h k).mpr n)
theorem sd_val {S : Dd} {cur : Str → Option Int} (h : Sd S cur) (z : Str) : okV (cur z) := by
  cases e : cur z with
  | none => exact fun i g => by cases g
  | some v =>
    have e2 := h.eq z
    rw [e] at e2
    exact h.ok _ (h.nd.mem.mp e2)
theorem unl_ok {S S' : Dd} {cur cur' : Str → Option Int} (h : Sd S cur) (h' : Sd S' cur') (hk : ∀ q ∈ S, okKey q.1 = true) (hk' : ∀ q ∈ S', okKey q.1 = true) (h1 : unl S S' cur cur' ≠ []) (h6 : (unl S S' cur cur').length ≤ 6) : okD ((unl S S' cur cur').map fun z => (z, cur' z)) := by
  have l0 : 1 ≤ (unl S S' cur cur').length := List.length_pos_iff.mpr h1
  have nd : (unl S S' cur cur').Nodup := (SG.sortS_nodup _).filter _
  have st := (SG.sortS_sorted (S.map (·.1) ++ S'.map (·.1))).filter fun z => !decide (cur z = cur' z)
  have e : (((unl S S' cur cur').map fun z => (z, cur' z)).map (·.1)) = unl S S' cur cur' := by
    rw [List.map_map]; exact List.map_id _
  refine ⟨by rw [List.length_map]; exact l0, by rw [List.length_map]; exact h6, fun p hp => ?_, ?_⟩
  · obtain ⟨z, hz, rfl⟩ := List.mem_map.mp hp
    refine ⟨?_, sd_val h' z⟩
    have g := (mem_unl h h').mp hz
    rcases List.mem_append.mp (key_in h h' g) with g | g
    · obtain ⟨q, hq, rfl⟩ := List.mem_map.mp g
      exact hk q hq
    · obtain ⟨q, hq, rfl⟩ := List.mem_map.mp g
      exact hk' q hq
  · rw [e]
    exact asc_of st nd
theorem unl_comm {S S' : Dd} {cur cur' : Str → Option Int} (h : Sd S cur) (h' : Sd S' cur') : unl S' S cur' cur = unl S S' cur cur' := by
  have a := (SG.sortS_sorted (S'.map (·.1) ++ S.map (·.1))).filter fun z => !decide (cur' z = cur z)
  have b := (SG.sortS_sorted (S.map (·.1) ++ S'.map (·.1))).filter fun z => !decide (cur z = cur' z)
  refine SG.sorted_perm ((List.perm_ext_iff_of_nodup ((SG.sortS_nodup _).filter _) ((SG.sortS_nodup _).filter _)).mpr fun z => ?_) a b
  exact (mem_unl h' h).trans ((Iff.intro Ne.symm Ne.symm).trans (mem_unl h h').symm)
theorem unl_key {S S' : Dd} {cur cur' : Str → Option Int} (h : Sd S cur) (h' : Sd S' cur') (hk : ∀ q ∈ S, okKey q.1 = true) (hk' : ∀ q ∈ S', okKey q.1 = true) : ∀ z ∈ unl S S' cur cur', okKey z = true := fun z hz => by
  have g := (mem_unl h h').mp hz
  rcases List.mem_append.mp (key_in h h' g) with g | g
  · obtain ⟨q, hq, rfl⟩ := List.mem_map.mp g
    exact hk q hq
  · obtain ⟨q, hq, rfl⟩ := List.mem_map.mp g
    exact hk' q hq
theorem sh_U {U : List Str} (h : ∀ z ∈ U, okKey z = true) : sh 8 (.tup (U.map T.str)) = true := by
  show ((U.map T.str).all fun t => sh 7 t) = true
  rw [List.all_map, List.all_eq_true]
  exact fun z hz => sh_up (okKey_sh (h z hz)) 7
theorem r_right {S S' : Dd} {cur cur' : Str → Option Int} (hem : em (.ref (cN "TooMany")) (.ref (cN "TooMany")) = some true) (h : Sd S cur) (h' : Sd S' cur') (hk : ∀ q ∈ S, okKey q.1 = true) (hk' : ∀ q ∈ S', okKey q.1 = true) (hl : S.length ≤ 15) (hl' : S'.length ≤ 15) (p : P (B true)) :
    w__law_between_right cN em [.val (aT S), .val (aT S')] P := by
  refine st__law_between_right ?_
  (repeat left)
  refine r_ds_unlike h h' hl hl' ?_
  (repeat left)
  refine r_unlike h h' hk hk' hl hl' ?_
  (repeat left)
  have hU := unl_key h h' hk hk'
  refine x_op2 (neT_self (sh_U hU)) ?_
  (repeat left)
  refine r_unlike h' h hk' hk hl' hl ?_
  rw [show ((SG.sortS (S'.map (·.1) ++ S.map (·.1))).filter fun z => !decide (cur' z = cur z)) = unl S S' cur cur' from unl_comm h h']
  (repeat left)
  refine x_op2 (neT_self (sh_U hU)) ?_
  (repeat left)
  refine rx_between h h' hk hk' hl hl' (fun g => ?_) (fun g => ?_) (fun g1 g2 => ?_)
  · refine ⟨true, hem, fun _ => ⟨_, rfl, fun a dd => ?_⟩, fun z => nomatch z⟩
    (repeat left)
    show P (.val (T.bl (decide ((6 : Int) < (((unl S S' cur cur').map T.str).length : Nat)))))
    rw [decide_eq_true (by rw [List.length_map]; omega)]
    exact p
  · refine ⟨rfl, ?_⟩
    rw [g, List.map_nil]
    (repeat left)
    exact p
  · refine ⟨rfl, ?_⟩
    have e6 : eqB (.tup ((unl S S' cur cur').map T.str)) (.tup []) = false := eqB_len (sh_U hU) rfl (by rw [List.length_map]; exact fun g => g2 (List.length_eq_zero_iff.mp g))
    have hd := unl_ok h h' hk hk' g2 g1
    have hv := vd_unl (U := unl S S' cur cur') (cur := cur) (cur' := cur') ((SG.sortS_nodup _).filter _) (fun z => mem_unl h h')
    generalize unl S S' cur cur' = U at g1 g2 e6 hd hv hU ⊢
    (repeat left)
    refine x_op2 ((eqT_of (sh_U hU) rfl).trans (by rw [e6])) ?_
    (repeat left)
    refine ⟨by rw [List.length_map]; omega, ?_⟩
    refine coll_fm (g := T.str) (f := fun z => sT (z, cur' z)) (v := fun _ => true) U [] (fun z hz R hR => ?_) (fun z hz R hR => ?_) ?_
    · exact hR
    · (repeat left)
      rw [getD_A, h'.vD]
      (repeat left)
      exact hR
    · rw [List.nil_append, List.filter_eq_self.mpr fun _ _ => rfl]
      (repeat left)
      rw [show (List.map (fun z => sT (z, cur' z)) U) = (U.map fun z => (z, cur' z)).map sT by rw [List.map_map]; rfl]
      refine x_op2 (eqT_self (sh_dT hd 6)) ?_
      (repeat left)
      refine r_done h hk (by omega) hd fun S2 hS2 _ => ?_
      rw [show (fun k => vd (cur k) (U.map fun z => (z, cur' z)) k) = cur' from funext hv] at hS2
      obtain rfl := hS2.one h'
      (repeat left)
      refine x_op2 (eqDct_self hS2.nd) ?_
      (repeat left)
      exact p
end
end My


set_option Elab.async false
set_option linter.all false
set_option maxRecDepth 100000
set_option maxHeartbeats 0

namespace My
open PySem PySem.Spec PyProof.Rows L2 Tr
variable [Tabl]
section
variable {P : Sl → Prop} {cN : Str → Addr} {em : Value → Value → Option Bool}
abbrev no : Str → Option Int := fun _ => none
def nsL : List Str := ["a", "abcdefgh", "b"]
def nsH : List Str := ["key", "zz", "e", "zzzzzzzz"]
theorem n9 : NsOk ns9 := ns_ok (by simp)
theorem st9 {S : Dd} {ds : List Dd} (h : Sd S (curs no ds)) (o : On ns9 ds) : (∀ q ∈ S, okKey q.1 = true) ∧ S.length ≤ 9 := ⟨fun q hq => n9.ok _ (h.on o q hq), h.few o⟩
theorem On.snoc {ns : List Str} {ds : List Dd} {d : Dd} (o : On ns ds) (h : ∀ q ∈ d, q.1 ∈ ns) : On ns (ds ++ [d]) := fun c hc => by
  rcases List.mem_append.mp hc with g | g
  · exact o c g
  · rw [List.mem_singleton.mp g]; exact h
theorem r_done9 {S d : Dd} {ds : List Dd} (h : Sd S (curs no ds)) (o : On ns9 ds) (hd : okD d) (p : ∀ S', Sd S' (curs no (ds ++ [d])) → P (.val (aT S'))) : w_done [.val (aT S), .val (dT d)] P :=
  r_done h (st9 h o).1 (by have := (st9 h o).2; omega) hd fun S' hS _ => p S' (curs_snoc ▸ hS)
theorem keys_sh {S : Dd} (hk : ∀ q ∈ S, okKey q.1 = true) : sh 8 (.lst ((kk S).map keyW)) = true := by
  show ((kk S).map keyW).all (fun t => sh 7 t) = true
  rw [List.all_map, List.all_map, List.all_eq_true]
  intro q hq
  exact sh_up (okKey_sh (hk q hq)) 7
theorem srt_self {S : Dd} {cur : Str → Option Int} (h : Sd S cur) : sortK (kk S) = kk S := by rw [kk_of, sortK_S, ms_id h.srt]
theorem curs_idem {ds : List Dd} {d : Dd} : curs no (ds ++ [d] ++ [d]) = curs no (ds ++ [d]) := by
  rw [curs_snoc, curs_snoc]
  exact funext fun k => vd_idem
theorem curs_comm {ds : List Dd} {d e : Dd} (h : ∀ p ∈ d, ∀ q ∈ e, p.1 ≠ q.1) : curs no (ds ++ [d] ++ [e]) = curs no (ds ++ [e] ++ [d]) := by
  rw [curs_snoc, curs_snoc, curs_snoc, curs_snoc]
  exact funext fun k => vd_comm h
theorem curs_later {ds : List Dd} {d e : Dd} (h : d.map (·.1) = e.map (·.1)) : curs no (ds ++ [d] ++ [e]) = curs no (ds ++ [e]) := by
  rw [curs_snoc, curs_snoc, curs_snoc]
  exact funext fun k => vd_later h
theorem low_high : ∀ x ∈ nsL, ∀ y ∈ nsH, x ≠ y := by decide +kernel
theorem l_9 : ∀ x ∈ nsL, x ∈ ns9 := by decide +kernel
theorem h_9 : ∀ x ∈ nsH, x ∈ ns9 := by decide +kernel
theorem collP2 {we : WE} {sl : List Sl} {Q : List T → Prop} {i j : Nat} : ∀ (as : Dd) (acc : List T), (∀ q ∈ as, ∀ R : Sl → Prop, (∀ v, okV v → R (.val (sT (q.1, v)))) → we ((sl.set i (.val (.str q.1))).set j (.val (oT q.2))) R) → (∀ d : Dd, d.map (·.1) = as.map (·.1) → (∀ p ∈ d, okV p.2) → Q (acc ++ d.map sT)) → wColl (.names [i, j]) wYes we sl Q (as.map sT) acc
  | [], acc, _, q => by
    have := q [] rfl fun p h => by cases h
    rwa [List.map_nil, List.append_nil] at this
  | a :: r, acc, h, q => by
    refine ⟨_, rfl, h a List.mem_cons_self _ fun v hv => ⟨_, rfl, collP2 r _ (fun c hc => h c (List.mem_cons_of_mem _ hc)) fun d h1 h2 => ?_⟩⟩
    have := q ((a.1, v) :: d) (by rw [List.map_cons, List.map_cons, h1]) fun p hp => (List.mem_cons.mp hp).elim (fun e => e ▸ hv) (h2 p)
    rw [List.append_assoc]
    exact this
theorem r__law_right (hem : em (.ref (cN "TooMany")) (.ref (cN "TooMany")) = some true) (p : P (B true)) : w__law_right cN em [.dice] P := by
  refine st__law_right ?_
  (repeat left)
  refine r__law_roll (n := 13) (by decide) (by decide) fun n n0 n1 => ?_
  obtain ⟨n, rfl⟩ := Int.eq_ofNat_of_zero_le n0
  (repeat left)
  refine ⟨by rw [upL]; omega, ?_⟩
  refine collE (fun t => ∃ d, t = dT d ∧ okD d ∧ ∀ q ∈ d, q.1 ∈ ns9) _ _ (fun t ht R hR => ?_) fun us ul ug => ?_
  · (repeat left)
    refine r__law_ds_keys ?_
    (repeat left)
    exact r__law_ds_deed n9.nd n9.ok n9.l1 (by have := n9.l9; omega) fun d hd ho => hR _ ⟨d, rfl, hd, ho⟩
  rw [List.nil_append]
  (repeat left)
  obtain ⟨ds, rfl, hds, ho⟩ := deeds_of ug
  have hlen : ds.length ≤ 12 := by
    rw [upL, List.length_map] at ul
    omega
  have hh : okH ds := ⟨by omega, hds⟩
  refine r_ds_states hh (by omega) fun SS hS => ?_
  (repeat left)
  refine for_inv (fun rest sl => ∃ (i : Nat) (x3 x4 x5 : Sl), rest = enT i ((ds.drop i).map dT) ∧ i ≤ ds.length ∧ sl = [.dice, .val (hT ds), .val (.lst (SS.map aT)), x3, x4, x5, .any, .any, .any, .any, .any, .any, .any]) ?_ ?_ _ _ ⟨0, _, _, _, by rw [List.drop_zero], Nat.zero_le _, rfl⟩
  rotate_left
  · rintro t rest sl N ⟨i, x3, x4, x5, e1, hi, rfl⟩ hN
    have hi2 : i < ds.length := by
      refine Nat.lt_of_not_le fun z => ?_
      rw [List.drop_of_length_le z] at e1; cases e1
    rw [List.drop_eq_getElem_cons hi2, List.map_cons] at e1
    injection e1 with e1 e4
    subst e1
    have hd := hds _ (List.getElem_mem hi2)
    have ho' := ho _ (List.getElem_mem hi2)
    obtain ⟨S1, s1, s2, _⟩ := hS.2 i hi
    obtain ⟨S2, g1, g2, _⟩ := hS.2 (i + 1) hi2
    have htk : ds.take (i + 1) = ds.take i ++ [ds[i]] := by rw [List.take_add_one, List.getElem?_eq_getElem hi2]; rfl
    refine ⟨[.dice, .val (hT ds), .val (.lst (SS.map aT)), .val (.int (i : Nat)), .val (dT ds[i]), x5, .any, .any, .any, .any, .any, .any, .any], rfl, ?_⟩
    (repeat left)
    refine x_op2 (ixl s1) ?_
    (repeat left)
    refine r_done9 s2 (ho.take i) hd fun S3 h3 => ?_
    rw [← htk] at h3
    obtain rfl := h3.one g2
    (repeat left)
    rw [show (i : Int) + 1 = ((i + 1 : Nat) : Int) by omega]
    refine x_op2 (ixl g1) ?_
    (repeat left)
    refine x_op2 (neDct_self g2.nd) ?_
    (repeat left)
    refine x_sortKv (srtK_A _) ?_
    rw [srt_self g2]
    (repeat left)
    refine x_op2 (neT_self (keys_sh (st9 g2 (ho.take _)).1)) ?_
    (repeat left)
    refine r_done9 g2 (ho.take _) hd fun S4 h4 => ?_
    rw [htk, curs_idem, ← htk] at h4
    obtain rfl := h4.one g2
    (repeat left)
    refine x_op2 (neDct_self g2.nd) ?_
    (repeat left)
    exact hN _ ⟨i + 1, _, _, _, e4, hi2, rfl⟩
  rintro sl ⟨i, x3, x4, x5, _, _, rfl⟩
  obtain ⟨S, g1, g2, _⟩ := hS.2 ds.length (Nat.le_refl _)
  have hlast : ixT (.lst (SS.map aT)) (.int (-1)) = some (aT S) := ixT_last (by rw [List.getLast?_map, List.getLast?_eq_getElem?, hS.1, Nat.add_sub_cancel, g1]; rfl)
  rw [List.take_length] at g2
  (repeat left)
  refine r_behind hh fun S2 h2 _ => ?_
  obtain rfl := h2.one g2
  (repeat left)
  refine x_op2 hlast ?_
  (repeat left)
  refine x_op2 (neDct_self g2.nd) ?_
  (repeat left)
  refine r_behind hh fun S3 h3 _ => ?_
  obtain rfl := h3.one g2
  (repeat left)
  refine x_op2 hlast ?_
  (repeat left)
  refine x_sortKv (srtK_A _) ?_
  rw [srt_self g2]
  (repeat left)
  refine x_op2 (neT_self (keys_sh (st9 g2 ho).1)) ?_
  (repeat left)
  refine x_op2 hlast ?_
  (repeat left)
  refine r__law_ds_deed (names := nsL) (by decide +kernel) (fun z hz => n9.ok z (l_9 z hz)) (by decide) (by decide) fun lo hlo lon => ?_
  (repeat left)
  refine r__law_ds_deed (names := nsH) (by decide +kernel) (fun z hz => n9.ok z (h_9 z hz)) (by decide) (by decide) fun hi hhi hin => ?_
  have lo9 : ∀ q ∈ lo, q.1 ∈ ns9 := fun q hq => l_9 _ (lon q hq)
  have hi9 : ∀ q ∈ hi, q.1 ∈ ns9 := fun q hq => h_9 _ (hin q hq)
  (repeat left)
  refine r_done9 g2 ho hlo fun S1 h1 => ?_
  (repeat left)
  refine r_done9 h1 (ho.snoc lo9) hhi fun S4 h4 => ?_
  (repeat left)
  refine r_done9 g2 ho hhi fun S5 h5 => ?_
  (repeat left)
  refine r_done9 h5 (ho.snoc hi9) hlo fun S6 h6 => ?_
  rw [curs_comm fun p hp q hq => (low_high _ (lon q hq) _ (hin p hp)).symm] at h6
  obtain rfl := h6.one h4
  (repeat left)
  refine x_op2 (neDct_self h4.nd) ?_
  (repeat left)
  have lo6 := hlo.l6
  refine ⟨by rw [List.length_map]; omega, ?_⟩
  refine collP2 lo [] (fun q hq R hR => ?_) fun ot e1 ok => ?_
  · (repeat left)
    refine r__law_ds_value fun v hv => ?_
    (repeat left)
    exact hR v hv
  rw [List.nil_append]
  (repeat left)
  have hle : ot.length = lo.length := by rw [← List.length_map (f := fun p : Str × Option Int => p.1), e1, List.length_map]
  have km : ∀ p ∈ ot, ∃ q ∈ lo, q.1 = p.1 := fun p hp => by
    have : p.1 ∈ lo.map (·.1) := e1 ▸ List.mem_map.mpr ⟨p, hp, rfl⟩
    obtain ⟨q, hq, e⟩ := List.mem_map.mp this
    exact ⟨q, hq, e⟩
  have hot : okD ot := ⟨by rw [hle]; exact hlo.l1, by rw [hle]; exact hlo.l6, fun p hp => ⟨by
    obtain ⟨q, hq, e⟩ := km p hp
    exact e ▸ (hlo.ok q hq).k, ok p hp⟩, by rw [e1]; exact hlo.asc⟩
  have ot9 : ∀ q ∈ ot, q.1 ∈ ns9 := fun p hp => by
    obtain ⟨q, hq, e⟩ := km p hp
    exact e ▸ lo9 q hq
  refine r_done9 g2 ho hlo fun T1 t1 => ?_
  (repeat left)
  refine r_done9 t1 (ho.snoc lo9) hot fun T2 t2 => ?_
  (repeat left)
  refine r_done9 g2 ho hot fun T3 t3 => ?_
  rw [curs_later e1.symm] at t2
  obtain rfl := t3.one t2
  (repeat left)
  refine x_op2 (neDct_self t2.nd) ?_
  (repeat left)
  have pick : ∀ t ∈ SS.map aT, ∃ (m : Nat) (A : Dd), m ≤ ds.length ∧ t = aT A ∧ Sd A (curs no (ds.take m)) := fun t ht => by
    obtain ⟨A, hA, rfl⟩ := List.mem_map.mp ht
    obtain ⟨m, hm, e⟩ := List.getElem_of_mem hA
    have hm2 : m ≤ ds.length := by have := hS.1; omega
    obtain ⟨A2, a1, a2, _⟩ := hS.2 m hm2
    rw [List.getElem?_eq_getElem hm, e] at a1
    injection a1 with a1
    exact ⟨m, A, hm2, rfl, a1 ▸ a2⟩
  have hSl := hS.1
  refine r_pick_lst (by rw [List.length_map]; omega) (by rw [List.length_map]; omega) fun u hu => ?_
  obtain ⟨m, A, hm, rfl, hA⟩ := pick u hu
  (repeat left)
  refine r_pick_lst (by rw [List.length_map]; omega) (by rw [List.length_map]; omega) fun u hu => ?_
  obtain ⟨m2, A2, hm2, rfl, hA2⟩ := pick u hu
  (repeat left)
  have qa := st9 hA (ho.take m)
  have qb := st9 hA2 (ho.take m2)
  have qs := st9 g2 ho
  refine r_right hem hA hA2 qa.1 qb.1 (by omega) (by omega) ?_
  (repeat left)
  refine r_done9 g2 ho hlo fun T4 t4 => ?_
  have qt := st9 t4 (ho.snoc lo9)
  (repeat left)
  refine r_right hem g2 t4 qs.1 qt.1 (by omega) (by omega) ?_
  (repeat left)
  exact p
theorem sd_of {S : Dd} (nd : NdA S) (ok : okPs S = true) (sm : S.all (fun p => p.2.isSome) = true) (srt : (S.map (·.1)).Pairwise fun a b => SG.strLe a b = true) : Sd S (vD S) := ⟨nd, fun z => by
  unfold vD
  cases e : look S z with
  | none => rfl
  | some w =>
    have := List.all_eq_true.mp sm _ (nd.mem.mp e)
    cases w with
    | none => cases this
    | some i => rfl, fun p hp => (okP_b ok p hp).v, srt⟩
abbrev A1 : Dd := [("a", some 1)]
abbrev D1 : Dd := [("a", none), ("b", some 0)]
abbrev B0 : Dd := [("b", some 0)]
abbrev A2 : Dd := [("a", some 1), ("b", some 2)]
abbrev B3 : Dd := [("b", some 3)]
def M7 : Dd := (ns9.take 7).map fun z => (z, some 1)
theorem sA1 : Sd A1 (vD A1) := sd_of (by unfold NdA; decide +kernel) (by decide +kernel) rfl (by decide +kernel)
theorem sA2 : Sd A2 (vD A2) := sd_of (by unfold NdA; decide +kernel) (by decide +kernel) rfl (by decide +kernel)
theorem sB3 : Sd B3 (vD B3) := sd_of (by unfold NdA; decide +kernel) (by decide +kernel) rfl (by decide +kernel)
theorem sM7 : Sd M7 (vD M7) := sd_of (by unfold NdA; decide +kernel) (by decide +kernel) rfl (by decide +kernel)
theorem sM6 : Sd (M7.drop 1) (vD (M7.drop 1)) := sd_of (by unfold NdA; decide +kernel) (by decide +kernel) rfl (by decide +kernel)
theorem kOf {S : Dd} (h : okPs S = true) : ∀ q ∈ S, okKey q.1 = true := fun q hq => (okP_b h q hq).k
theorem ab : ¬ (("a" : Str) = "b") := by decide +kernel
theorem sB0 : Sd B0 (fun k => vd (vD A1 k) D1 k) := ⟨by unfold NdA; decide +kernel, fun z => by
  show (if ("b" : Str) = z then some (some 0) else none) = Option.map some (if ("b" : Str) = z then some 0 else if ("a" : Str) = z then none else (if ("a" : Str) = z then some (some 1) else none).getD none)
  by_cases h1 : ("b" : Str) = z
  · rw [if_pos h1, if_pos h1]; rfl
  · rw [if_neg h1, if_neg h1]
    by_cases h2 : ("a" : Str) = z
    · rw [if_pos h2]; rfl
    · rw [if_neg h2, if_neg h2]; rfl, fun p hp => (by rw [List.mem_singleton.mp hp]; exact okV_b (by decide)), List.pairwise_singleton _ _⟩
theorem u2 : unl A2 B3 (vD A2) (vD B3) = ([("a" : Str), "b"] : List Str) := by
  have a := (SG.sortS_sorted (A2.map (·.1) ++ B3.map (·.1))).filter fun z => !decide (vD A2 z = vD B3 z)
  refine SG.sorted_perm ((List.perm_ext_iff_of_nodup ((SG.sortS_nodup _).filter _) (by decide +kernel)).mpr fun z => ?_) a (by decide +kernel)
  refine (mem_unl sA2 sB3).trans ?_
  show (if ("a" : Str) = z then some (some (1 : Int)) else if ("b" : Str) = z then some (some 2) else none).getD none ≠ (if ("b" : Str) = z then some (some 3) else none).getD none ↔ z ∈ [("a" : Str), "b"]
  rw [List.mem_cons, List.mem_singleton]
  by_cases h1 : ("a" : Str) = z
  · subst h1
    rw [if_pos rfl, if_neg fun e => ab e.symm]
    exact ⟨fun _ => .inl rfl, fun _ e => by cases e⟩
  · rw [if_neg h1]
    by_cases h2 : ("b" : Str) = z
    · subst h2
      rw [if_pos rfl, if_pos rfl]
      exact ⟨fun _ => .inr rfl, fun _ e => by cases e⟩
    · rw [if_neg h2, if_neg h2]
      exact ⟨fun h => (h rfl).elim, fun h => h.elim (fun e => (h1 e.symm).elim) (fun e => (h2 e.symm).elim)⟩
theorem u0 : unl [] [] no no = [] := List.eq_nil_iff_forall_not_mem.mpr fun z hz => (mem_unl Sd.nil Sd.nil).mp hz rfl
theorem it_ok {t : T} (h : sh 8 t = true) : itOk t t = true := by
  unfold itOk
  rw [sh_shp h]; rfl
theorem it_b {t : T} (h : sh 8 t = true) : itB t t = true := by
  unfold itB
  rw [sh_shp h]
  exact eqB_self h
theorem sh_ab : sh 8 (.tup [.str "a", .str "b"]) = true := by decide +kernel
def tl3 : List T := [aT B0, aT [], .tup [.str "a", .str "b"]]
theorem tl3_ok : ((tl3.zip tl3).all fun p => itOk p.1 p.2) = true := by
  simp only [tl3, List.zip_cons_cons, List.zip_nil_right, List.all_cons, List.all_nil, Bool.and_true, Bool.and_eq_true]
  exact ⟨rfl, rfl, it_ok sh_ab⟩
theorem tl3_eq : ((tl3.zip tl3).all fun p => itB p.1 p.2) = true := by
  simp only [tl3, List.zip_cons_cons, List.zip_nil_right, List.all_cons, List.all_nil, Bool.and_true, Bool.and_eq_true]
  refine ⟨?_, ?_, it_b sh_ab⟩
  · show ((kk B0).length == (kk B0).length && eqDB (kk B0) (vv B0) (kk B0) (vv B0)) = true
    rw [eqDB_sub fun p hp => sB0.nd.mem.mpr hp, beq_self_eq_true]; rfl
  · rfl
theorem told3 : neLD (.lst tl3) (.lst tl3) = some (.bl false) := by
  show (if (tl3.length == tl3.length && (tl3.zip tl3).all fun p => itOk p.1 p.2) = true then some (T.bl (!(tl3.zip tl3).all fun p => itB p.1 p.2)) else none) = _
  rw [tl3_ok, tl3_eq, beq_self_eq_true]; rfl
theorem r_law {ns : List Int} (hemO : EmOk cN em ["TooMany"]) (hn : ns.length ≤ 63) (p : P (B true)) : w_law cN em [.val (.scr (ns.map T.int))] P := by
  have hem : em (.ref (cN "TooMany")) (.ref (cN "TooMany")) = some true := by
    rw [hemO _ List.mem_cons_self _ List.mem_cons_self, decide_eq_true rfl]
  refine st_law ?_
  (repeat left)
  generalize hN : (if (if ((ns.map T.int).length : Int) < 4 then ((ns.map T.int).length : Int) else 4) > 1 then (if ((ns.map T.int).length : Int) < 4 then ((ns.map T.int).length : Int) else 4) else 1) = N
  have hb : 1 ≤ N ∧ N ≤ 4 := by
    rw [← hN]
    split <;> split <;> omega
  (repeat left)
  refine for_inv (fun ts sl => (∀ t ∈ ts, ∃ j : Int, t = .int j ∧ 0 ≤ j ∧ j < 64) ∧ ∃ a b, sl = [.val (.scr (ns.map T.int)), a, b, .any, .any, .any]) ?_ ?_ _ _ ⟨?_, _, _, rfl⟩
  · rintro sl ⟨-, a, b, rfl⟩
    (repeat left)
    refine r_done (S := A1) (d := D1) sA1 (kOf (by decide +kernel)) (by decide) (okD_b (by decide) (by decide) (by decide +kernel) (by decide +kernel)) fun S hS _ => ?_
    obtain rfl := hS.one sB0
    (repeat left)
    refine r_behind (ds := []) ok0 fun S hS _ => ?_
    obtain rfl := hS.one Sd.nil
    (repeat left)
    refine r_unlike (S := A2) (S' := B3) sA2 sB3 (kOf (by decide +kernel)) (kOf (by decide +kernel)) (by decide) (by decide) ?_
    rw [show (((SG.sortS (A2.map (·.1) ++ B3.map (·.1))).filter fun z => !decide (vD A2 z = vD B3 z))) = ([("a" : Str), "b"] : List Str) from u2]
    (repeat left)
    refine x_op2 (z := .bl false) told3 ?_
    (repeat left)
    refine r_between (S := A2) (S' := B3) sA2 sB3 (kOf (by decide +kernel)) (kOf (by decide +kernel)) (by decide) (by decide) (by rw [u2]; decide) (fun g => by rw [u2] at g; cases g) (fun _ => ?_)
    rw [u2]
    (repeat left)
    refine x_dictP ?_
    (repeat left)
    refine r__law_ds_keys ?_
    (repeat left)
    have ec : cutT (ns9.map T.str) none (some 7) = (ns9.take 7).map T.str := by
      rw [List.map_take]; exact cut_take (n := 7)
    rw [ec]
    refine ⟨by decide, ?_⟩
    refine coll_fm (g := T.str) (f := fun z => sT (z, some 1)) (v := fun _ => true) (ns9.take 7) [] (fun z hz R hR => ?_) (fun z hz R hR => ?_) ?_
    · exact hR
    · (repeat left)
      exact hR
    rw [List.nil_append, List.filter_eq_self.mpr fun _ _ => rfl, show (List.map (fun z => sT (z, some 1)) (ns9.take 7)) = M7.map sT by unfold M7; rw [List.map_map]; rfl]
    (repeat left)
    refine dp_A2 sM7.nd ?_
    (repeat left)
    refine r_right (S := []) (S' := M7) hem Sd.nil sM7 (fun q hq => by cases hq) (kOf (by decide +kernel)) (by decide) (by decide) ?_
    (repeat left)
    rw [mkI_A]
    rw [show cutT (M7.map sT) (some 1) none = (M7.drop 1).map sT by rw [List.map_drop]; exact cut_drop (n := 1)]
    refine x_dictMv (pairs_A _) ?_
    have hlay := lay_A (M7.drop 1) []
    rw [lay_nd (B := M7.drop 1) (A := []) sM6.nd, List.nil_append] at hlay
    rw [show (layK ((M7.drop 1).map fun p => ((.inr p.1 : Key), oT p.2)) [] []).1 = kk (M7.drop 1) from congrArg Prod.fst hlay, show (layK ((M7.drop 1).map fun p => ((.inr p.1 : Key), oT p.2)) [] []).2 = vv (M7.drop 1) from congrArg Prod.snd hlay]
    (repeat left)
    refine r_right (S := M7) (S' := M7.drop 1) hem sM7 sM6 (kOf (by decide +kernel)) (kOf (by decide +kernel)) (by decide) (by decide) ?_
    (repeat left)
    refine r_between (S := []) (S' := []) Sd.nil Sd.nil (fun q hq => by cases hq) (fun q hq => by cases hq) (by decide) (by decide) (by rw [u0]; decide) (fun _ => ?_) (fun g => (g u0).elim)
    (repeat left)
    exact p
  · rintro t ts sl N2 ⟨ht, a, b, rfl⟩ hN2
    obtain ⟨j, rfl, j0, j1⟩ := ht t List.mem_cons_self
    refine ⟨_, rfl, ?_⟩
    (repeat left)
    refine x_diceG ?_
    (repeat left)
    refine ⟨rfl, ⟨ns, j, rfl, hn, j0, j1⟩, ?_⟩
    (repeat left)
    refine r__law_right hem ?_
    (repeat left)
    refine r__law_right hem ?_
    (repeat left)
    exact hN2 _ ⟨fun u hu => ht u (List.mem_cons_of_mem _ hu), _, _, rfl⟩
  · intro t ht
    unfold Tr.upTo at ht
    obtain ⟨j, hj, rfl⟩ := List.mem_map.mp ht
    have := List.mem_range.mp hj
    exact ⟨_, rfl, by omega, by omega⟩
end
end My


set_option Elab.async false
set_option linter.all false
set_option maxRecDepth 100000
set_option maxHeartbeats 0
namespace My
open PySem PySem.Spec PyProof.Rows L2 Tr

theorem facts [Tabl] {P : Program} {w : World} {K : PySem.W.Frag} {h : Heap} {mg : Str → Option Value} {f : Addr} (X : K.In h) (G : h.Ns mainGlobals mg) (hfa : mg ("law" : Str) = some (.ref f)) (c : He.SaysD fa fn K) (hex : ex K = true) (HT : ∀ p ∈ lamT K, p ∈ Tabl.T) (htb : ∀ t ∈ tbs, ∃ es n, KDict K w (t.1 K) es n) :
    ∃ fd : FuncData, (∀ (s : Shared) (v : Value), BindsTo s fd ⟨[v], []⟩ [("script", v)]) ∧ EmOk (He.ga K) (PySem.W.exmOne K) ["TooMany"] ∧ ∀ base : Heap, K.In base → base.Ns mainGlobals mg → (∀ p ∈ tf.map (He.cT K), LamX.TabB base mg p.1 p.2) → FnOk P w K mg base CX0 11 f fd ["script"] (spT K (w_law (He.ga K) (PySem.W.exmOne K))) := by
  unfold ex at hex
  simp only [Bool.and_eq_true, and_true] at hex
  obtain ⟨x0, x1, x2, x3, x4, x5⟩ := hex
  obtain ⟨fd0, F0⟩ := c.def_ 0 (d := d0) rfl
  have g0 := He.glo_ok X G (c.fact 0 (f := .glo "_law_dice") rfl)
  obtain ⟨fd1, F1⟩ := c.def_ 1 (d := d1) rfl
  have g1 := He.glo_ok X G (c.fact 1 (f := .glo "is_key") rfl)
  obtain ⟨fd2, F2⟩ := c.def_ 2 (d := d2) rfl
  have g2 := He.glo_ok X G (c.fact 2 (f := .glo "is_whole") rfl)
  obtain ⟨fd3, F3⟩ := c.def_ 3 (d := d3) rfl
  have g3 := He.glo_ok X G (c.fact 3 (f := .glo "is_within") rfl)
  obtain ⟨fd4, F4⟩ := c.def_ 4 (d := d4) rfl
  have g4 := He.glo_ok X G (c.fact 4 (f := .glo "is_value") rfl)
  obtain ⟨fd5, F5⟩ := c.def_ 5 (d := d5) rfl
  have g5 := He.glo_ok X G (c.fact 5 (f := .glo "is_pairs") rfl)
  obtain ⟨fd6, F6⟩ := c.def_ 6 (d := d6) rfl
  have g6 := He.glo_ok X G (c.fact 6 (f := .glo "need_pairs") rfl)
  obtain ⟨fd7, F7⟩ := c.def_ 7 (d := d7) rfl
  have g7 := He.glo_ok X G (c.fact 7 (f := .glo "are_ascending") rfl)
  obtain ⟨fd8, F8⟩ := c.def_ 8 (d := d8) rfl
  have g8 := He.glo_ok X G (c.fact 8 (f := .glo "is_value_or_none") rfl)
  obtain ⟨fd9, F9⟩ := c.def_ 9 (d := d9) rfl
  have g9 := He.glo_ok X G (c.fact 9 (f := .glo "_is_setting") rfl)
  obtain ⟨fd10, F10⟩ := c.def_ 10 (d := d10) rfl
  have g10 := He.glo_ok X G (c.fact 10 (f := .glo "is_deed") rfl)
  obtain ⟨fd11, F11⟩ := c.def_ 11 (d := d11) rfl
  have g11 := He.glo_ok X G (c.fact 11 (f := .glo "need_deed") rfl)
  obtain ⟨fd12, F12⟩ := c.def_ 12 (d := d12) rfl
  have g12 := He.glo_ok X G (c.fact 12 (f := .glo "ascending") rfl)
  obtain ⟨fd13, F13⟩ := c.def_ 13 (d := d13) rfl
  have g13 := He.glo_ok X G (c.fact 13 (f := .glo "done_on") rfl)
  obtain ⟨fd14, F14⟩ := c.def_ 14 (d := d14) rfl
  have g14 := He.glo_ok X G (c.fact 14 (f := .glo "done") rfl)
  obtain ⟨fd15, F15⟩ := c.def_ 15 (d := d15) rfl
  have g15 := He.glo_ok X G (c.fact 15 (f := .glo "_need_deeds") rfl)
  obtain ⟨fd16, F16⟩ := c.def_ 16 (d := d16) rfl
  have g16 := He.glo_ok X G (c.fact 16 (f := .glo "behind") rfl)
  obtain ⟨fd17, F17⟩ := c.def_ 17 (d := d17) rfl
  have g17 := He.glo_ok X G (c.fact 17 (f := .glo "unlike_keys") rfl)
  obtain ⟨fd18, F18⟩ := c.def_ 18 (d := d18) rfl
  have g18 := He.glo_ok X G (c.fact 18 (f := .glo "_law_ds_unlike") rfl)
  obtain ⟨fd19, F19⟩ := c.def_ 19 (d := d19) rfl
  have g19 := He.glo_ok X G (c.fact 19 (f := .glo "deed_between") rfl)
  obtain ⟨fd20, F20⟩ := c.def_ 20 (d := d20) rfl
  have g20 := He.glo_ok X G (c.fact 20 (f := .glo "_law_ds_done") rfl)
  obtain ⟨fd21, F21⟩ := c.def_ 21 (d := d21) rfl
  have g21 := He.glo_ok X G (c.fact 21 (f := .glo "_law_ds_states") rfl)
  obtain ⟨fd22, F22⟩ := c.def_ 22 (d := d22) rfl
  have g22 := He.glo_ok X G (c.fact 22 (f := .glo "_law_roll") rfl)
  obtain ⟨fd23, F23⟩ := c.def_ 23 (d := d23) rfl
  have g23 := He.glo_ok X G (c.fact 23 (f := .glo "_law_shuffled") rfl)
  obtain ⟨fd24, F24⟩ := c.def_ 24 (d := d24) rfl
  have g24 := He.glo_ok X G (c.fact 24 (f := .glo "_law_pick") rfl)
  obtain ⟨fd25, F25⟩ := c.def_ 25 (d := d25) rfl
  have g25 := He.glo_ok X G (c.fact 25 (f := .glo "_law_ds_value") rfl)
  obtain ⟨fd26, F26⟩ := c.def_ 26 (d := d26) rfl
  have g26 := He.glo_ok X G (c.fact 26 (f := .glo "_law_ds_deed") rfl)
  obtain ⟨fd27, F27⟩ := c.def_ 27 (d := d27) rfl
  have g27 := He.glo_ok X G (c.fact 27 (f := .glo "_law_ds_keys") rfl)
  obtain ⟨fd28, F28⟩ := c.def_ 28 (d := d28) rfl
  have g28 := He.glo_ok X G (c.fact 28 (f := .glo "_law_between_right") rfl)
  obtain ⟨fd29, F29⟩ := c.def_ 29 (d := d29) rfl
  have g29 := He.glo_ok X G (c.fact 29 (f := .glo "_law_right") rfl)
  obtain ⟨fd30, F30⟩ := c.def_ 30 (d := d30) rfl
  have g30 := He.glo_ok X G (c.fact 30 (f := .glo "law") rfl)
  obtain ⟨fd31, F31⟩ := c.def_ 31 (d := d31) rfl
  have b_abs := He.free_ok X G (c.fact 31 (f := .free "abs") rfl)
  have b_int := He.free_ok X G (c.fact 32 (f := .free "int") rfl)
  have b_max := He.free_ok X G (c.fact 33 (f := .free "max") rfl)
  have b_len := He.free_ok X G (c.fact 34 (f := .free "len") rfl)
  have c_MOST_KEY := He.int_ok X G (c.fact 35 (f := .int "MOST_KEY" 8) rfl)
  have b_isinstance := He.free_ok X G (c.fact 36 (f := .free "isinstance") rfl)
  have b_str := He.free_ok X G (c.fact 37 (f := .free "str") rfl)
  have b_all := He.free_ok X G (c.fact 38 (f := .free "all") rfl)
  have c__LETTERS := He.str_ok X G (c.fact 39 (f := .str "_LETTERS" "abcdefghijklmnopqrstuvwxyz") rfl)
  have b_bool := He.free_ok X G (c.fact 40 (f := .free "bool") rfl)
  have c_MOST_WHOLE := He.int_ok X G (c.fact 41 (f := .int "MOST_WHOLE" 999999999999999999999999999999999999999999999999999999999999) rfl)
  have c_MOST_VALUE := He.int_ok X G (c.fact 42 (f := .int "MOST_VALUE" 999999999999) rfl)
  have c_MOST_KEYS := He.int_ok X G (c.fact 43 (f := .int "MOST_KEYS" 10000) rfl)
  have b_dict := He.free_ok X G (c.fact 44 (f := .free "dict") rfl)
  have b_zip := He.free_ok X G (c.fact 45 (f := .free "zip") rfl)
  have b_tuple := He.free_ok X G (c.fact 46 (f := .free "tuple") rfl)
  have c_MOST_SET := He.int_ok X G (c.fact 47 (f := .int "MOST_SET" 6) rfl)
  have b_sorted := He.free_ok X G (c.fact 48 (f := .free "sorted") rfl)
  have c_MOST_DEEDS := He.int_ok X G (c.fact 49 (f := .int "MOST_DEEDS" 1500) rfl)
  have b_set := He.free_ok X G (c.fact 50 (f := .free "set") rfl)
  have b_list := He.free_ok X G (c.fact 51 (f := .free "list") rfl)
  have b_range := He.free_ok X G (c.fact 53 (f := .free "range") rfl)
  have b_enumerate := He.free_ok X G (c.fact 54 (f := .free "enumerate") rfl)
  have b_min := He.free_ok X G (c.fact 55 (f := .free "min") rfl)
  have b_OverflowError := He.free_ok X G (c.fact 58 (f := .free "OverflowError") rfl)
  have XF_TooMany := xfdB_ok x0
  have EX_InvalidValue := exB_ok x1
  have EX_InvalidDeed := exB_ok x2
  have hem := emB_ok x4
  have mg_TooMany := He.glo_ok X G (c.fact 52 (f := .glo "TooMany") rfl)
  have mg_InvalidValue := He.glo_ok X G (c.fact 56 (f := .glo "InvalidValue") rfl)
  have mg_InvalidDeed := He.glo_ok X G (c.fact 57 (f := .glo "InvalidDeed") rfl)
  have e := hfa.symm.trans g30
  cases e
  have bl := FunD.bindsA (ps := ["script"]) F30 fun _ _ _ _ _ _ us hl => match us, hl with | [_], _ => rfl
  refine ⟨fd30, fun s v => bl s [v] rfl, hem, fun base _ _ TB => ?_⟩
  have oe_TooMany := oexB_ok x3
  have XI_TooMany : ExI P w K mg base "TooMany" (He.ga K "TooMany") "limit" := CallX.mkI exbOverflowError oe_TooMany F31 (ok_TooMany___init__ F31 b_OverflowError oe_TooMany.g oe_TooMany.t oe_TooMany.v) mg_TooMany (fun _ _ _ _ _ _ us hl => match us, hl with | [_, _], _ => rfl)
  have D__law_dice : DiceD P w K mg base 1 "_law_dice" preDice := ⟨_, _, _, (ok__law_dice F0 b_abs b_int b_max b_len hp_dice), g0, F0.kp, F0.bindsN fun _ _ _ _ _ _ us hl => match us, hl with | [_, _], _ => rfl⟩
  have D__law_roll : CallD P w K mg base 1 "_law_roll" w__law_roll [] := CallD.of F22 (ok__law_roll F22 b_int) g22 (fun _ _ _ _ _ _ us hl => match us, hl with | [_, _], _ => rfl)
  have D__law_shuffled : CallD P w K mg base 2 "_law_shuffled" w__law_shuffled [] := CallD.of F23 (ok__law_shuffled F23 b_list D__law_roll b_len) g23 (fun _ _ _ _ _ _ us hl => match us, hl with | [_, _], _ => rfl)
  have D__law_pick : CallD P w K mg base 2 "_law_pick" w__law_pick [] := CallD.of F24 (ok__law_pick F24 D__law_roll b_len) g24 (fun _ _ _ _ _ _ us hl => match us, hl with | [_, _], _ => rfl)
  have D__law_ds_value : CallD P w K mg base 3 "_law_ds_value" w__law_ds_value [] := CallD.of F25 (ok__law_ds_value F25 D__law_pick D__law_roll) g25 (fun _ _ _ _ _ _ us hl => match us, hl with | [_], _ => rfl)
  have D__law_ds_deed : CallD P w K mg base 4 "_law_ds_deed" w__law_ds_deed [] := CallD.of F26 (ok__law_ds_deed F26 b_sorted D__law_shuffled D__law_roll b_tuple D__law_ds_value) g26 (fun _ _ _ _ _ _ us hl => match us, hl with | [_, _], _ => rfl)
  have D__law_ds_keys : CallD P w K mg base 1 "_law_ds_keys" w__law_ds_keys [] := CallD.of F27 (ok__law_ds_keys F27) g27 (fun _ _ _ _ _ _ us hl => match us, hl with | [], _ => rfl)
  have D__law_ds_done : CallD P w K mg base 1 "_law_ds_done" w__law_ds_done [] := CallD.of F20 (ok__law_ds_done F20 b_dict b_list b_sorted) g20 (fun _ _ _ _ _ _ us hl => match us, hl with | [_, _], _ => rfl)
  have D__law_ds_states : CallD P w K mg base 2 "_law_ds_states" w__law_ds_states [] := CallD.of F21 (ok__law_ds_states F21 D__law_ds_done) g21 (fun _ _ _ _ _ _ us hl => match us, hl with | [_], _ => rfl)
  have D_is_whole : CallD P w K mg base 1 "is_whole" w_is_whole [] := CallD.of F2 (ok_is_whole F2 b_isinstance b_bool b_int c_MOST_WHOLE) g2 (fun _ _ _ _ _ _ us hl => match us, hl with | [_], _ => rfl)
  have D_is_within_3 : CallD P w K mg base 2 "is_within" w_is_within [] := CallD.dfl F3 (ok_is_within F3 D_is_whole) g3 3 1 (List.cons_ne_nil _ _) rfl (fun _ _ _ _ _ _ _ us its h1 h2 => match us, its, h1, h2 with | [_, _, _], [_], _, _ => ⟨_, rfl, rfl⟩)
  have D_is_value : CallD P w K mg base 3 "is_value" w_is_value [] := CallD.of F4 (ok_is_value F4 D_is_within_3 c_MOST_VALUE) g4 (fun _ _ _ _ _ _ us hl => match us, hl with | [_], _ => rfl)
  have D_is_key : CallD P w K mg base 1 "is_key" w_is_key [] := CallD.of F1 (ok_is_key F1 b_len c_MOST_KEY b_isinstance b_str b_all c__LETTERS) g1 (fun _ _ _ _ _ _ us hl => match us, hl with | [_], _ => rfl)
  have D_is_pairs : CallD P w K mg base 4 "is_pairs" w_is_pairs [] := CallD.of F5 (ok_is_pairs F5 b_len c_MOST_KEYS b_isinstance b_dict b_all D_is_value D_is_key) g5 (fun _ _ _ _ _ _ us hl => match us, hl with | [_], _ => rfl)
  have D_need_pairs : CallD P w K mg base 5 "need_pairs" w_need_pairs [] := CallD.of F6 (ok_need_pairs F6 D_is_pairs) g6 (fun _ _ _ _ _ _ us hl => match us, hl with | [_], _ => rfl)
  have D_is_value_or_none : CallD P w K mg base 4 "is_value_or_none" w_is_value_or_none [] := CallD.of F8 (ok_is_value_or_none F8 D_is_value) g8 (fun _ _ _ _ _ _ us hl => match us, hl with | [_], _ => rfl)
  have D__is_setting : CallD P w K mg base 5 "_is_setting" w__is_setting [] := CallD.of F9 (ok__is_setting F9 b_len b_isinstance b_tuple D_is_value_or_none D_is_key) g9 (fun _ _ _ _ _ _ us hl => match us, hl with | [_], _ => rfl)
  have D_are_ascending : CallD P w K mg base 1 "are_ascending" w_are_ascending [] := CallD.of F7 (ok_are_ascending F7 b_all b_zip) g7 (fun _ _ _ _ _ _ us hl => match us, hl with | [_], _ => rfl)
  have D_is_deed : CallD P w K mg base 6 "is_deed" w_is_deed [] := CallD.of F10 (ok_is_deed F10 b_len c_MOST_SET b_isinstance b_tuple b_all D__is_setting D_are_ascending) g10 (fun _ _ _ _ _ _ us hl => match us, hl with | [_], _ => rfl)
  have D_need_deed : CallD P w K mg base 7 "need_deed" w_need_deed [] := CallD.of F11 (ok_need_deed F11 D_is_deed) g11 (fun _ _ _ _ _ _ us hl => match us, hl with | [_], _ => rfl)
  have D_ascending : CallD P w K mg base 1 "ascending" w_ascending [] := CallD.of F12 (ok_ascending F12 b_sorted) g12 (fun _ _ _ _ _ _ us hl => match us, hl with | [_], _ => rfl)
  have D_done_on : CallD P w K mg base 2 "done_on" w_done_on [] := CallD.of F13 (ok_done_on F13 b_dict D_ascending) g13 (fun _ _ _ _ _ _ us hl => match us, hl with | [_, _], _ => rfl)
  have D_done : CallD P w K mg base 8 "done" w_done [] := CallD.of F14 (ok_done F14 D_need_pairs D_need_deed D_done_on b_len c_MOST_KEYS) g14 (fun _ _ _ _ _ _ us hl => match us, hl with | [_, _], _ => rfl)
  have D__need_deeds : CallD P w K mg base 7 "_need_deeds" w__need_deeds [] := CallD.of F15 (ok__need_deeds F15 b_all D_is_deed b_len c_MOST_DEEDS b_isinstance b_tuple) g15 (fun _ _ _ _ _ _ us hl => match us, hl with | [_], _ => rfl)
  have D_behind : CallD P w K mg base 8 "behind" w_behind [] := CallD.of F16 (ok_behind F16 D__need_deeds D_done_on) g16 (fun _ _ _ _ _ _ us hl => match us, hl with | [_], _ => rfl)
  have D__law_ds_unlike : CallD P w K mg base 1 "_law_ds_unlike" w__law_ds_unlike [] := CallD.of F18 (ok__law_ds_unlike F18 b_tuple b_sorted b_set b_list) g18 (fun _ _ _ _ _ _ us hl => match us, hl with | [_, _], _ => rfl)
  have D_unlike_keys : CallD P w K mg base 6 "unlike_keys" w_unlike_keys [] := CallD.of F17 (ok_unlike_keys F17 D_need_pairs b_sorted b_set b_list b_tuple) g17 (fun _ _ _ _ _ _ us hl => match us, hl with | [_, _], _ => rfl)
  have DX_deed_between : CallX P w K mg base 7 "deed_between" (wx_deed_between (He.ga K)) [] := CallX.of F19 (okx_deed_between F19 b_tuple b_len c_MOST_SET XI_TooMany D_unlike_keys) g19 (fun _ _ _ _ _ _ us hl => match us, hl with | [_, _], _ => rfl)
  have D__law_between_right : CallD P w K mg base 9 "_law_between_right" (w__law_between_right (He.ga K) (PySem.W.exmOne K)) [] := CallD.of F28 (ok__law_between_right F28 D__law_ds_unlike D_unlike_keys DX_deed_between mg_TooMany b_len XF_TooMany D_done b_tuple) g28 (fun _ _ _ _ _ _ us hl => match us, hl with | [_, _], _ => rfl)
  have D__law_right : CallD P w K mg base 10 "_law_right" (w__law_right (He.ga K) (PySem.W.exmOne K)) [] := CallD.of F29 (ok__law_right F29 b_tuple b_range D__law_roll D__law_ds_deed D__law_ds_keys D__law_ds_states b_enumerate D_done b_list b_sorted D_behind D__law_ds_value D__law_between_right D__law_pick) g29 (fun _ _ _ _ _ _ us hl => match us, hl with | [_], _ => rfl)
  have D_deed_between : CallD P w K mg base 7 "deed_between" w_deed_between [] := CallD.of F19 (ok_deed_between F19 D_unlike_keys b_len c_MOST_SET b_tuple) g19 (fun _ _ _ _ _ _ us hl => match us, hl with | [_, _], _ => rfl)
  exact (ok_law F30 b_range b_max b_min b_len D__law_dice D__law_right D_unlike_keys D_behind D_done D_deed_between b_dict D__law_ds_keys D__law_between_right b_list)
theorem law_at {w : World} {K : PySem.W.Frag} {h : Heap} {mg : Str → Option Value} {f : Addr} (X : K.In h) (G : h.Ns mainGlobals mg) (hfa : mg ("law" : Str) = some (.ref f)) (c : He.SaysX fa fn tbs tf ex w h K) : L2.LawAtG PySem.Challenge.rw_wholemoment_k04_whole_deeds_on_pairs w K L2.CX0 11 63 "script" mg f h := by
  have nd : ((lamT K).map Prod.fst).Nodup := by
    have q := c.more
    unfold ex at q
    simp only [Bool.and_eq_true, and_true] at q
    exact of_decide_eq_true (show tabsNd K = true from q.2.2.2.2.2)
  letI tb : Tabl := ⟨lamT K, fst_uniq nd⟩
  obtain ⟨fd, hb, hem, hF⟩ := facts (P := (PySem.Challenge.rw_wholemoment_k04_whole_deeds_on_pairs).prog) (w := w) X G hfa c.t.d c.more (fun p hp => hp) (fun t ht => by
    obtain ⟨i, hi⟩ := List.mem_iff_getElem?.mp ht
    exact c.t.tab i hi)
  have key : ∀ p ∈ tf.map (He.cT K), ∃ d ∈ tf, He.cT K d = p := fun p hp => by
    obtain ⟨d, hd, e⟩ := List.mem_map.mp hp
    exact ⟨d, hd, e⟩
  refine ⟨fd, tf.map (He.cT K), spT K (w_law (He.ga K) (PySem.W.exmOne K)), fun p hp => ?_, fun p hp => ?_, fun p hp => ?_, hb, fun H a ns hl S => start_T (fun p hp => ?_) (fun p hp => ?_) S (My.r_law hem hl rfl), fun base h1 h2 h3 => (hF base h1 h2 h3).toG⟩
  · obtain ⟨d, hd, rfl⟩ := key p hp
    exact c.empty d hd
  · obtain ⟨d, hd, rfl⟩ := key p hp
    exact c.out d hd
  · obtain ⟨d, hd, rfl⟩ := key p hp
    exact PySem.W.codeHd_of_K X (c.hd d hd)
  · cases hp
  · cases hp
end My
open PySem PySem.W PySem.Calls PyProof.Rows
theorem PySem.Challenge.cw_wholemoment_k04_whole_deeds_on_pairs_holds : PySem.Challenge.rw_wholemoment_k04_whole_deeds_on_pairs.Holds := by
  refine My.early ?_
  intro w mg fa h Y G hmg0
  obtain ⟨K, KX, c⟩ := Y
  have hmg : mg ("law" : PySem.Str) = some (.ref fa) := by
    have e : (HandSHeadRun.topDef (OpenLaw.row PySem.Challenge.rw_wholemoment_k04_whole_deeds_on_pairs).prog 46).name = ("law" : PySem.Str) := by kernel_rfl
    rw [← e]
    exact hmg0
  exact ⟨K, KX, My.law_at KX G hmg c⟩

