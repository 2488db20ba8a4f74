/-
  A region that draws its order, in a function that hands on to a loop: an operation that yields its value in every world that meets a condition may be taken first. Over any program.
-/
import Derived.Test.YtidfanmfibbiiaaRoundAny
import Derived.OrdersIn
import Derived.OrdersHeld
import Derived.RangeFuncCalls
namespace Go.Proofs.Ytidfanmfibbiiaa
open Go.RowKit
variable {P : Program} {ops : Array Oper} {Q : Exit → Act → World → Prop} {md : Region.Mode} {S : World → Prop} {n : Nat}

theorem still_op {i : Nat} {o : Oper} {v : Value} {a : Act} (hi : ops[i]? = some o) (h : YieldsIf P ops S o v a) {K : Act → World → Prop} {w : World} (hS : S w) (hK : K (a.put o.dst v) w) :
    wpOpIn Fence.wide n P ops Q i K a w := by
  unfold wpOpIn
  simp only [hi]
  rcases h with ⟨hw, hr⟩ | ⟨hw, rfl⟩
  · simp only [hw, if_true]
    refine ⟨fun _ _ => trivial, ?_⟩
    rw [show Fence.wide.round = none from rfl, Oper.semAt_none, hr w hS]
    exact hK
  · simp only [hw, Bool.false_eq_true, if_false]
    exact ⟨fun _ _ => trivial, hK⟩

theorem other_op {j : Nat} {oi oj : Oper} {v : Value} (hj : ops[j]? = some oj) (hap : oi.apart ops oj = true) (hsi : ∀ cs b, oi.op ≠ .select cs b) (hsj : ∀ cs b, oj.op ≠ .select cs b)
    (hQ : ∀ c a w, Q (.panic c) (a.put oi.dst v) w → Q (.panic c) a w) {K : Act → World → Prop} {a : Act} {w : World} (hy : YieldsIf P ops S oi v a) (h : wpOpIn Fence.wide n P ops Q j K (a.put oi.dst v) w) :
    wpOpIn Fence.wide n P ops Q j (fun a2 w2 => YieldsIf P ops S oi v a2 ∧ K (a2.put oi.dst v) w2) a w := by
  obtain ⟨h1, h2, h3⟩ := Oper.apart_spec hap
  have stays : ∀ (b : Act), YieldsIf P ops S oi v b → ∀ u, YieldsIf P ops S oi v (b.put oj.dst u) := fun b hb u => hb.of_same (execOp_put oi hsi b oj.dst u h3) (wanted_put oi b oj.dst u h3)
  have swap : ∀ (b : Act) (u : Value) (w2 : World), K ((b.put oi.dst v).put oj.dst u) w2 → K ((b.put oj.dst u).put oi.dst v) w2 := fun b u w2 hk => by rw [← Act.put_comm b v u h2]; exact hk
  unfold wpOpIn at h ⊢
  simp only [hj] at h ⊢
  rw [wanted_put oj a oi.dst v h1] at h
  by_cases hw : Region.wanted oj (yielded ops a.tmps) = true
  · simp only [hw, if_true] at h ⊢
    refine ⟨fun _ _ => trivial, ?_⟩
    have h := h.2
    rw [show Fence.wide.round = none from rfl, Oper.semAt_none, execOp_put oj hsj a oi.dst v h1] at h
    rw [show Fence.wide.round = none from rfl, Oper.semAt_none]
    cases hr : (execOp a.eval oj).run P w with
    | ok x w2 =>
      rw [hr] at h
      cases x <;> simp only [Oper.uponIn] at h ⊢
      case value u => exact ⟨stays a hy u, swap a u w2 h⟩
      case skip => exact ⟨stays a hy _, swap a _ w2 h⟩
      case defer d =>
        refine ⟨stays { a with defers := d :: a.defers } (hy.of_same rfl rfl) _, ?_⟩
        rw [← Act.put_comm _ v undef h2, ← Act.put_defers]
        exact h
      case enter f args =>
        refine ⟨h.1, CallsIn.mono h.2 fun e w3 he => ?_⟩
        cases e with
        | returned u => exact ⟨stays a hy u, swap a u w3 he⟩
        | panicked c => exact hQ _ _ _ he
        | outgrown => exact he
      case row row args => exact ⟨h.1, RowsIn.mono h.2 fun u w3 he => ⟨stays a hy u, swap a u w3 he⟩⟩
      case round l f tmps assign body =>
        refine ⟨h.1, RoundIn.mono h.2 fun e w3 he => ?_⟩
        cases e with
        | returned u => exact ⟨stays a hy u, swap a u w3 he⟩
        | panicked c => exact hQ _ _ _ he
        | outgrown => exact he
    | halt x w2 =>
      rw [hr] at h
      cases x <;> simp only [Oper.uponIn] at h ⊢
      case panic u => exact hQ _ _ _ h
  · simp only [hw] at h ⊢
    exact ⟨fun _ _ => trivial, stays a hy _, swap a _ w h.2⟩

/-- whatever order is drawn from here on, S holding behind each operation -/
def AnyIn (n : Nat) (P : Program) (md : Region.Mode) (ops : Array Oper) (Q : Exit → Act → World → Prop) (S : World → Prop) : Nat → Array Bool → Act → World → Prop
  | 0, listed, a, w => Region.ready md ops listed = [] ∧ Q .normal a w
  | fuel + 1, listed, a, w => (Region.ready md ops listed = [] → Q .normal a w) ∧ ∀ i ∈ Region.ready md ops listed, wpOpIn Fence.wide n P ops Q i (fun a2 w2 => S w2 ∧ AnyIn n P md ops Q S fuel (listed.setIfInBounds i true) a2 w2) a w
theorem any_of_anyIn : ∀ (fuel : Nat) (listed : Array Bool) (a : Act) (w : World), AnyIn n P md ops Q S fuel listed a w → wpAnyIn Fence.wide n P md ops Q fuel listed a w
  | 0, _, _, _, h => h
  | fuel + 1, _, _, _, h => ⟨h.1, fun i hi => wpOpIn_mono (fun a2 w2 h2 => any_of_anyIn fuel _ a2 w2 h2.2) (h.2 i hi)⟩
theorem AnyIn.first {i : Nat} {oi : Oper} {v : Value} (hi : ops[i]? = some oi) (hsel : ∀ (j : Nat) (o : Oper) cs b, ops[j]? = some o → o.op ≠ .select cs b)
    (hQ : ∀ c a w, Q (.panic c) (a.put oi.dst v) w → Q (.panic c) a w) :
    ∀ (fuel : Nat) (listed : Array Bool) (a : Act) (w : World),
      (∀ j oj, ops[j]? = some oj → j ≠ i → listed.getD j true = false → (∀ e ∈ oj.after, Region.binds md e = true → e.on ≠ i) → oi.apart ops oj = true) →
      i ∈ Region.ready md ops listed → YieldsIf P ops S oi v a → S w →
      AnyIn n P md ops Q S fuel (listed.setIfInBounds i true) (a.put oi.dst v) w → AnyIn n P md ops Q S (fuel + 1) listed a w := by
  intro fuel
  induction fuel with
  | zero =>
    intro listed a w _ hr hy hS H
    refine ⟨fun h => (by rw [h] at hr; cases hr), fun j hj => ?_⟩
    by_cases hji : j = i
    · subst hji; exact still_op hi hy hS ⟨hS, H⟩
    · have := ready_mono hj hji
      rw [H.1] at this
      cases this
  | succ fuel ih =>
    intro listed a w hfree hr hy hS H
    refine ⟨fun h => (by rw [h] at hr; cases hr), fun j hj => ?_⟩
    by_cases hji : j = i
    · subst hji; exact still_op hi hy hS ⟨hS, H⟩
    · have step := H.2 j (ready_mono hj hji)
      obtain ⟨hun, oj, hoj, hall⟩ := mem_ready.1 hj
      have waits : ∀ e ∈ oj.after, Region.binds md e = true → e.on ≠ i := fun e he hb heq => by
        have k1 := hall e he hb
        have k0 := (mem_ready.1 hr).1
        rw [heq] at k1
        rw [getD_both k0] at k1
        cases k1
      have swapped := other_op hoj (hfree j oj hoj hji hun waits) (fun cs b => hsel i oi cs b hi) (fun cs b => hsel j oj cs b hoj) hQ hy step
      refine wpOpIn_mono (fun a2 w2 h3 => ⟨h3.2.1, ih (listed.setIfInBounds j true) a2 w2 ?_ (ready_mono hr (Ne.symm hji)) h3.1 h3.2.1 ?_⟩) swapped
      · intro k ok hk hki hunk hno
        refine hfree k ok hk hki ?_ hno
        by_cases hjk : j = k
        · subst hjk; exact hun
        · rw [getD_set_ne true hjk] at hunk; exact hunk
      · rw [Array.setIfInBounds_comm _ _ hji]
        exact h3.2.2
theorem AnyIn.pick {w : World} (hs : Region.noSelect ops = true) (hR : ∀ c (a : Act) d v w, Q (.panic c) (a.put d v) w → Q (.panic c) a w) (hS : S w) :
    ∀ (r : List Nat) (fuel : Nat) (listed : Array Bool) (a : Act), pickB md ops r listed = true → PickOk P ops S (fun a2 => AnyIn n P md ops Q S fuel (pickSet r listed) a2 w) r a → AnyIn n P md ops Q S (fuel + r.length) listed a w
  | [], _, _, _, _, h => h
  | i :: r, fuel, listed, a, hB, h => by
    obtain ⟨o, v, ho, hy, hk⟩ := h
    simp only [pickB, Bool.and_eq_true] at hB
    exact AnyIn.first ho (Region.noSelect_spec hs) (fun c a2 w2 => hR c a2 _ _ w2) (fuel + r.length) listed a w (Region.free_spec ho hB.1.2) (by simpa using hB.1.1) hy hS (AnyIn.pick hs hR hS r fuel _ _ hB.2 hk)
/-- the one that is left -/
theorem AnyIn.one {i : Nat} {o : Oper} {fuel : Nat} {listed : Array Bool} {a : Act} {w : World} (hr : Region.ready md ops listed = [i]) (ho : ops[i]? = some o) (hw : Region.wanted o (yielded ops a.tmps) = true)
    (h : ∀ K : Act → World → Prop, (∀ a2 w2, S w2 → (S w2 → AnyIn n P md ops Q S fuel (listed.setIfInBounds i true) a2 w2) → K a2 w2) → o.wpIn Fence.wide n P a w K Q) : AnyIn n P md ops Q S (fuel + 1) listed a w := by
  refine ⟨fun h0 => absurd (hr ▸ h0) (by simp), ?_⟩
  rw [hr]
  intro j hj
  obtain rfl : j = i := by simpa using hj
  unfold wpOpIn
  simp only [ho, hw, if_true]
  exact h _ (fun a2 w2 hS hk => ⟨hS, hk hS⟩)
theorem AnyIn.done {listed : Array Bool} {a : Act} {w : World} (hr : Region.ready md ops listed = []) (h : Q .normal a w) : ∀ fuel, AnyIn n P md ops Q S fuel listed a w
  | 0 => ⟨hr, h⟩
  | _ + 1 => ⟨fun _ => h, by rw [hr]; simp⟩
/-- such a region -/
theorem iter_held {id : Nat} {a : Act} {w : World} (S : World → Prop) (hm : P.follows .mixedOrders = true)
    (h : AnyIn n P .any ops (Only (Q .normal)) S ops.size (Array.replicate ops.size false) a w.drew) : (Code.region id ops true).wpIn Fence.wide n P Q a w :=
  wpIn_mono (wpIn_region_any hm (any_of_anyIn _ _ _ _ h)) Only.imp
theorem pick_skip {K : Act → Prop} {i : Nat} {r : List Nat} {a : Act} {o : Oper} {d : Option Tmp} (ho : ops[i]? = some o) (hd : o.dst = d) (hw : Region.wanted o (yielded ops a.tmps) = false)
    (h : PickOk P ops S K r (a.put d undef)) : PickOk P ops S K (i :: r) a := by
  subst hd
  exact ⟨o, undef, ho, .inr ⟨hw, rfl⟩, h⟩
end Go.Proofs.Ytidfanmfibbiiaa
