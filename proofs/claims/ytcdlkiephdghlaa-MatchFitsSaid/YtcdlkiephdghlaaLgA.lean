/-
  What the functions of package label come to that package match asks: Get; and Few of the laws.
-/
import Derived.Test.YtcdlkiephdghlaaLaB
import Derived.Laws.StructEq
namespace Go.Proofs.Ytcdlkiephdghlaa
open Go.RowKit
namespace La
/-- the value of the first one of a name -/
def get (f : Nat → Lab) (name : ByteArray) : Nat → Nat → ByteArray
  | 0, _ => ByteArray.empty
  | m + 1, i => if (f i).1 = name then (f i).2 else get f name m (i + 1)
end La
set_option maxRecDepth 100000 in
set_option maxHeartbeats 1000000 in
theorem Get_any (A : Option Addr) (n c : Nat) (hn : n ≤ maxLen) (f : Nat → Lab) (name : ByteArray) (w : World) (hA : LabRow w A n f) :
    Calls Try.prog 32 #[.slice A n c, .string name] w fun e w' => e = .returned (.string (La.get f name n 0)) ∧ Below w.heap.size w w' := by
  unfold maxLen at hn
  have HA := Lib.hid hA; clear hA
  generalize hr : La.get f name n 0 = r
  have HR := Lib.hid hr; clear hr
  go_enter Try.func32, Try.ntmps32
  go_wp2_with fail
  go_loopw [9] (fun i wr => ∃ k : Nat, k ≤ n ∧ i = .int .i64 k ∧ La.get f name (n - k) k = r ∧ Below w.heap.size w wr) (fun i _ => n - (intOf i).toNat)
  case atStart => exact ⟨0, by omega, rfl, HR.out, Below.refl _ _⟩
  case round =>
    obtain ⟨k, hk, rfl, hg, hb⟩ := hrel
    have HB := Lib.hid hb; clear hb
    by_cases hlt : k < n
    · obtain ⟨ad, rfl, c0, c1⟩ := HA.out.at_ HB.out hlt
      rw [show n - k = (n - (k + 1)) + 1 from by omega, La.get] at hg
      have HG := Lib.hid hg; clear hg
      have HBA := Lib.hid (HB.out.alloc HB.out.size (.cells #[.string (f k).1, .string (f k).2] 49))
      have hbe := str_beq (f k).1 name
      obtain ⟨x, hx⟩ : ∃ x, (f k).1 = x := ⟨_, rfl⟩
      obtain ⟨y, hy⟩ : ∃ y, (f k).2 = y := ⟨_, rfl⟩
      rw [hx] at c0 HBA HG hbe
      rw [hy] at c1 HBA HG
      clear hx hy
      by_cases he : x = name
      · have hb : (x.toList == name.toList) = true := by rw [hbe]; simpa using he
        have HE := Lib.hid he; clear he hbe
        go_wp2_with fail
        go_ret
        refine ⟨?_, HBA.out⟩
        have := HG.out
        rw [if_pos HE.out] at this
        rw [this]; rfl
      · have hb : (x.toList == name.toList) = false := by rw [hbe]; simpa using he
        have HE := Lib.hid he; clear he hbe
        go_wp2_with fail
        go_roundw
        case rel =>
          have := HG.out
          rw [if_neg HE.out] at this
          exact ⟨k + 1, by omega, by go_num, this, HBA.out⟩
        case measure => simp [intOf]; omega
    · obtain rfl : k = n := by omega
      rw [Nat.sub_self] at hg
      have HG := Lib.hid hg; clear hg
      go_wp2_with fail
      go_ret
      refine ⟨?_, HB.out⟩
      rw [← HG.out]; rfl

namespace La
/-- so few labels, and so short -/
def few (f : Nat → Lab) (n : Nat) : Bool := decide (n ≤ 10) && (List.range n).all (fun i => decide ((f i).1.size ≤ 300 ∧ (f i).2.size ≤ 300))
theorem few_yes {f : Nat → Lab} {n : Nat} (h : few f n = true) : n ≤ 10 ∧ ∀ i, i < n → (f i).1.size ≤ 300 ∧ (f i).2.size ≤ 300 := by
  unfold few at h
  simp only [Bool.and_eq_true, decide_eq_true_eq] at h
  exact ⟨h.1, fun i hi => by simpa using List.all_eq_true.1 h.2 i (List.mem_range.2 hi)⟩
theorem few_no {f : Nat → Lab} {n k : Nat} (hk : k < n) (h : ¬ ((f k).1.size ≤ 300 ∧ (f k).2.size ≤ 300)) : few f n = false := by
  unfold few
  have : (List.range n).all (fun i => decide ((f i).1.size ≤ 300 ∧ (f i).2.size ≤ 300)) = false := by
    rw [List.all_eq_false]
    exact ⟨k, List.mem_range.2 hk, by simpa using h⟩
  rw [this, Bool.and_false]
theorem few_ten {f : Nat → Lab} {n : Nat} (h : 10 < n) : few f n = false := by
  unfold few
  rw [decide_eq_false (by omega), Bool.false_and]
theorem few_all {f : Nat → Lab} {n : Nat} (hn : n ≤ 10) (h : ∀ i, i < n → (f i).1.size ≤ 300 ∧ (f i).2.size ≤ 300) : few f n = true := by
  unfold few
  rw [decide_eq_true hn, Bool.true_and, List.all_eq_true]
  intro i hi
  exact decide_eq_true (h i (List.mem_range.1 hi))
end La
set_option maxRecDepth 100000 in
set_option maxHeartbeats 1000000 in
theorem Few_any (A : Option Addr) (n c : Nat) (hn : n ≤ maxLen) (f : Nat → Lab) (w : World) (hA : LabRow w A n f) :
    Calls Try.prog 13 #[.slice A n c] w fun e w' => e = .returned (.bool (La.few f n)) ∧ Below w.heap.size w w' := by
  unfold maxLen at hn
  have HA := Lib.hid hA; clear hA
  go_enter Try.func13, Try.ntmps13
  go_wp2_with fail
  go_loopw [3] (fun i wr => ∃ k : Nat, k ≤ n ∧ k ≤ 11 ∧ i = .int .i64 k ∧ (∀ j, j < k → (f j).1.size ≤ 300 ∧ (f j).2.size ≤ 300) ∧ Below w.heap.size w wr) (fun i _ => n - (intOf i).toNat)
  case atStart => exact ⟨0, Nat.zero_le _, by omega, rfl, (fun j hj => absurd hj (by omega)), Below.refl _ _⟩
  case round =>
    obtain ⟨k, hk, hk11, rfl, hall, hb⟩ := hrel
    by_cases hgo : k < n ∧ k ≤ 10
    · obtain ⟨h1, h2⟩ := hgo
      obtain ⟨ad, rfl, c0, c1⟩ := HA.out.at_ hb h1
      have hb2 := Lib.hid hb; clear hb
      have hno := fun h => La.few_no (f := f) (n := n) (k := k) h1 h
      have hnx : (f k).1.size ≤ 300 ∧ (f k).2.size ≤ 300 → ∀ j, j < k + 1 → (f j).1.size ≤ 300 ∧ (f j).2.size ≤ 300 := fun h j hj => by
        rcases Nat.lt_or_ge j k with h3 | h3
        · exact hall j h3
        · rw [show j = k from by omega]; exact h
      have HNO := Lib.hid hno; have HNX := Lib.hid hnx; clear hno hnx hall
      generalize (f k).1 = x at *
      generalize (f k).2 = y at *
      have i1 : (k : Int) < (n : Int) := by omega
      have i2 : (k : Int) ≤ 10 := by omega
      have d1 : decide ((k : Int) < (n : Int)) = true := by simpa using h1
      have d2 : decide ((k : Int) ≤ 10) = true := by simpa using i2
      by_cases hx : x.size ≤ 300
      · have d3 : decide ((300 : Int) < (x.size : Int)) = false := by simp; omega
        by_cases hy : y.size ≤ 300
        · have d4 : decide ((300 : Int) < (y.size : Int)) = false := by simp; omega
          go_wp2_with fail
          go_roundw
          case rel => exact ⟨k + 1, by omega, by omega, by go_num, HNX.out ⟨hx, hy⟩, hb2.out⟩
          case measure => simp [intOf]; omega
        · have d4 : decide ((300 : Int) < (y.size : Int)) = true := by simp; omega
          go_wp2_with fail
          go_ret
          rw [HNO.out (fun e => hy e.2)]
          exact ⟨rfl, hb2.out⟩
      · have d3 : decide ((300 : Int) < (x.size : Int)) = true := by simp; omega
        go_wp2_with fail
        go_ret
        rw [HNO.out (fun e => hx e.1)]
        exact ⟨rfl, hb2.out⟩
    · by_cases hkn : k < n
      · have d1 : decide ((k : Int) < (n : Int)) = true := by simpa using hkn
        have d2 : decide ((k : Int) ≤ 10) = false := by simp; omega
        have d3 : decide ((n : Int) ≤ 10) = false := by simp; omega
        have hr := La.few_ten (f := f) (n := n) (by omega)
        have HR := Lib.hid hr; clear hr
        go_wp2_with fail
        go_ret
        rw [HR.out]
        exact ⟨rfl, hb⟩
      · have e : k = n := by omega
        subst e
        have d1 : decide ((k : Int) < (k : Int)) = false := by simp
        by_cases h10 : k ≤ 10
        · have hr := La.few_all h10 hall
          have d3 : decide ((k : Int) ≤ 10) = true := by simp; omega
          have HR := Lib.hid hr; clear hr
          go_wp2_with fail
          go_ret
          rw [HR.out]
          exact ⟨rfl, hb⟩
        · have hr := La.few_ten (f := f) (n := k) (by omega)
          have d3 : decide ((k : Int) ≤ 10) = false := by simp; omega
          have HR := Lib.hid hr; clear hr
          go_wp2_with fail
          go_ret
          rw [HR.out]
          exact ⟨rfl, hb⟩
end Go.Proofs.Ytcdlkiephdghlaa
