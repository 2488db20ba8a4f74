/-
  What Few and works of the laws of label come to.
-/
import Derived.Test.YtidfanmfibbiiaaLaG
namespace Go.Proofs.Ytidfanmfibbiiaa
open Go.RowKit
namespace La
/-- so few labels, and so short -/
def few (f : Nat → Lab) (n : Nat) : Bool := decide (n ≤ 10) && (List.range n).all (fun i => decide ((f i).1.size ≤ 300 ∧ (f i).2.size ≤ 300))
theorem few_yes {f : Nat → Lab} {n : Nat} (h : few f n = true) : n ≤ 10 ∧ ∀ i, i < n → (f i).1.size ≤ 300 ∧ (f i).2.size ≤ 300 := by
  unfold few at h
  simp only [Bool.and_eq_true, decide_eq_true_eq] at h
  exact ⟨h.1, fun i hi => by simpa using List.all_eq_true.1 h.2 i (List.mem_range.2 hi)⟩
theorem few_no {f : Nat → Lab} {n k : Nat} (hk : k < n) (h : ¬ ((f k).1.size ≤ 300 ∧ (f k).2.size ≤ 300)) : few f n = false := by
  unfold few
  have : (List.range n).all (fun i => decide ((f i).1.size ≤ 300 ∧ (f i).2.size ≤ 300)) = false := by
    rw [List.all_eq_false]
    exact ⟨k, List.mem_range.2 hk, by simpa using h⟩
  rw [this, Bool.and_false]
theorem few_ten {f : Nat → Lab} {n : Nat} (h : 10 < n) : few f n = false := by
  unfold few
  rw [decide_eq_false (by omega), Bool.false_and]
theorem few_all {f : Nat → Lab} {n : Nat} (hn : n ≤ 10) (h : ∀ i, i < n → (f i).1.size ≤ 300 ∧ (f i).2.size ≤ 300) : few f n = true := by
  unfold few
  rw [decide_eq_true hn, Bool.true_and, List.all_eq_true]
  intro i hi
  exact decide_eq_true (h i (List.mem_range.1 hi))
def exL : List Lab := [(⟨#[97]⟩, ⟨#[120]⟩), (⟨#[98]⟩, ⟨#[121]⟩)]
def exF : Nat → Lab := at_ exL
theorem ex1 : right exF 2 = true := by decide +kernel
theorem ex2 : showB exF 2 = ⟨#[123, 97, 61, 34, 120, 34, 44, 98, 61, 34, 121, 34, 125]⟩ := by decide +kernel
theorem ex4 : keyB exF 2 = ⟨#[1, 97, 1, 120, 1, 98, 1, 121]⟩ := by decide +kernel
theorem ex5 : of ⟨#[1, 97, 1, 120, 1, 98, 1, 121]⟩ = some exL := by decide +kernel
theorem ex6 : less (keyB exF 1) (keyB exF 2) = true := by decide +kernel
theorem ex7 : less (keyB exF 2) (keyB exF 1) = false := by decide +kernel
theorem ex8 : longest exF 2 = 1 := by decide +kernel
theorem ex9 : get exF ⟨#[98]⟩ 2 0 = ⟨#[121]⟩ := by decide +kernel
theorem ex10 : (decide (2 = 2) && same exF exF 2) = true := by decide +kernel
theorem ex11 : right exF 0 = false := by decide +kernel
theorem exS : ∀ i, i < 2 → (exF i).1.size ≤ 300 ∧ (exF i).2.size ≤ 300 := by decide +kernel
end La

set_option maxRecDepth 100000 in
set_option maxHeartbeats 1000000 in
theorem Few_any (A : Option Addr) (n c : Nat) (hn : n ≤ maxLen) (f : Nat → Lab) (w : World) (hA : LabRow w A n f) :
    Calls Try.prog 17 #[.slice A n c] w fun e w' => e = .returned (.bool (La.few f n)) ∧ Below w.heap.size w w' := by
  unfold maxLen at hn
  have HA := Lib.hid hA; clear hA
  go_enter Try.func17, Try.ntmps17
  go_wp2_with fail
  go_loopw [3] (fun i wr => ∃ k : Nat, k ≤ n ∧ k ≤ 11 ∧ i = .int .i64 k ∧ (∀ j, j < k → (f j).1.size ≤ 300 ∧ (f j).2.size ≤ 300) ∧ Below w.heap.size w wr) (fun i _ => n - (intOf i).toNat)
  case atStart => exact ⟨0, Nat.zero_le _, by omega, rfl, (fun j hj => absurd hj (by omega)), Below.refl _ _⟩
  case round =>
    obtain ⟨k, hk, hk11, rfl, hall, hb⟩ := hrel
    by_cases hgo : k < n ∧ k ≤ 10
    · obtain ⟨h1, h2⟩ := hgo
      obtain ⟨ad, rfl, c0, c1⟩ := HA.out.at_ hb h1
      have hb2 := Lib.hid hb; clear hb
      have hno := fun h => La.few_no (f := f) (n := n) (k := k) h1 h
      have hnx : (f k).1.size ≤ 300 ∧ (f k).2.size ≤ 300 → ∀ j, j < k + 1 → (f j).1.size ≤ 300 ∧ (f j).2.size ≤ 300 := fun h j hj => by
        rcases Nat.lt_or_ge j k with h3 | h3
        · exact hall j h3
        · rw [show j = k from by omega]; exact h
      have HNO := Lib.hid hno; have HNX := Lib.hid hnx; clear hno hnx hall
      generalize (f k).1 = x at *
      generalize (f k).2 = y at *
      have i1 : (k : Int) < (n : Int) := by omega
      have i2 : (k : Int) ≤ 10 := by omega
      have d1 : decide ((k : Int) < (n : Int)) = true := by simpa using h1
      have d2 : decide ((k : Int) ≤ 10) = true := by simpa using i2
      by_cases hx : x.size ≤ 300
      · have d3 : decide ((300 : Int) < (x.size : Int)) = false := by simp; omega
        by_cases hy : y.size ≤ 300
        · have d4 : decide ((300 : Int) < (y.size : Int)) = false := by simp; omega
          go_wp2_with fail
          go_roundw
          case rel => exact ⟨k + 1, by omega, by omega, by go_num, HNX.out ⟨hx, hy⟩, hb2.out⟩
          case measure => simp [intOf]; omega
        · have d4 : decide ((300 : Int) < (y.size : Int)) = true := by simp; omega
          go_wp2_with fail
          go_ret
          rw [HNO.out (fun e => hy e.2)]
          exact ⟨rfl, hb2.out⟩
      · have d3 : decide ((300 : Int) < (x.size : Int)) = true := by simp; omega
        go_wp2_with fail
        go_ret
        rw [HNO.out (fun e => hx e.1)]
        exact ⟨rfl, hb2.out⟩
    · by_cases hkn : k < n
      · have d1 : decide ((k : Int) < (n : Int)) = true := by simpa using hkn
        have d2 : decide ((k : Int) ≤ 10) = false := by simp; omega
        have d3 : decide ((n : Int) ≤ 10) = false := by simp; omega
        have hr := La.few_ten (f := f) (n := n) (by omega)
        have HR := Lib.hid hr; clear hr
        go_wp2_with fail
        go_ret
        rw [HR.out]
        exact ⟨rfl, hb⟩
      · have e : k = n := by omega
        subst e
        have d1 : decide ((k : Int) < (k : Int)) = false := by simp
        by_cases h10 : k ≤ 10
        · have hr := La.few_all h10 hall
          have d3 : decide ((k : Int) ≤ 10) = true := by simp; omega
          have HR := Lib.hid hr; clear hr
          go_wp2_with fail
          go_ret
          rw [HR.out]
          exact ⟨rfl, hb⟩
        · have hr := La.few_ten (f := f) (n := k) (by omega)
          have d3 : decide ((k : Int) ≤ 10) = false := by simp; omega
          have HR := Lib.hid hr; clear hr
          go_wp2_with fail
          go_ret
          rw [HR.out]
          exact ⟨rfl, hb⟩
end Go.Proofs.Ytidfanmfibbiiaa
