/-
  Few of the laws of matchers.
-/
import Derived.Test.YtidfanmfibbiiaaMaF
namespace Go.Proofs.Ytidfanmfibbiiaa
open Go.RowKit
namespace Ma
def lab (m : Nat → Mat) (i : Nat) : Lab := ((m i).n, (m i).v)
end Ma
set_option maxRecDepth 100000 in
set_option maxHeartbeats 1000000 in
theorem MFew_any (A : Option Addr) (n c : Nat) (hn : n ≤ maxLen) (m : Nat → Mat) (w : World) (hA : Row 3 (mx m) w A n) :
    Calls Try.prog 15 #[.slice A n c] w fun e w' => e = .returned (.bool (La.few (Ma.lab m) n)) ∧ Below w.heap.size w w' := by
  unfold maxLen at hn
  have HA := Lib.hid hA; clear hA
  go_enter Try.func15, Try.ntmps15
  go_wp2_with fail
  go_loopw [3] (fun i wr => ∃ k : Nat, k ≤ n ∧ k ≤ 11 ∧ i = .int .i64 k ∧ (∀ j, j < k → (m j).n.size ≤ 300 ∧ (m j).v.size ≤ 300) ∧ Below w.heap.size w wr) (fun i _ => n - (intOf i).toNat)
  case atStart => exact ⟨0, Nat.zero_le _, by omega, rfl, (fun j hj => absurd hj (by omega)), Below.refl _ _⟩
  case round =>
    obtain ⟨k, hk, hk11, rfl, hall, hb⟩ := hrel
    by_cases hgo : k < n ∧ k ≤ 10
    · obtain ⟨h1, h2⟩ := hgo
      obtain ⟨ad, rfl, z0, z1⟩ := HA.out.at_ hb h1
      have c0 : wr.cell? ⟨(ad.add (k * 3)).block, (ad.add (k * 3)).off + 1, none⟩ = some (.string (m k).n) := z1 1 (by omega) (by omega)
      have c1 : wr.cell? ⟨(ad.add (k * 3)).block, (ad.add (k * 3)).off + 2, none⟩ = some (.string (m k).v) := z1 2 (by omega) (by omega)
      clear z0 z1
      have hb2 := Lib.hid hb; clear hb
      have hno : ¬ ((m k).n.size ≤ 300 ∧ (m k).v.size ≤ 300) → La.few (Ma.lab m) n = false := fun h => La.few_no (f := Ma.lab m) (n := n) (k := k) h1 h
      have hnx : (m k).n.size ≤ 300 ∧ (m k).v.size ≤ 300 → ∀ j, j < k + 1 → (m j).n.size ≤ 300 ∧ (m j).v.size ≤ 300 := fun h j hj => by
        rcases Nat.lt_or_ge j k with h3 | h3
        · exact hall j h3
        · rw [show j = k from by omega]; exact h
      have HNO := Lib.hid hno; have HNX := Lib.hid hnx; clear hno hnx hall
      generalize (m k).n = x at *
      generalize (m k).v = y at *
      have i1 : (k : Int) < (n : Int) := by omega
      have i2 : (k : Int) ≤ 10 := by omega
      have d1 : decide ((k : Int) < (n : Int)) = true := by simpa using h1
      have d2 : decide ((k : Int) ≤ 10) = true := by simpa using i2
      by_cases hx : x.size ≤ 300
      · have d3 : decide ((300 : Int) < (x.size : Int)) = false := by simp; omega
        by_cases hy : y.size ≤ 300
        · have d4 : decide ((300 : Int) < (y.size : Int)) = false := by simp; omega
          go_wp2_with fail
          go_roundw
          case rel => exact ⟨k + 1, by omega, by omega, by go_num, HNX.out ⟨hx, hy⟩, hb2.out⟩
          case measure => simp [intOf]; omega
        · have d4 : decide ((300 : Int) < (y.size : Int)) = true := by simp; omega
          go_wp2_with fail
          go_ret
          rw [HNO.out (fun e => hy e.2)]
          exact ⟨rfl, hb2.out⟩
      · have d3 : decide ((300 : Int) < (x.size : Int)) = true := by simp; omega
        go_wp2_with fail
        go_ret
        rw [HNO.out (fun e => hx e.1)]
        exact ⟨rfl, hb2.out⟩
    · by_cases hkn : k < n
      · have d1 : decide ((k : Int) < (n : Int)) = true := by simpa using hkn
        have d2 : decide ((k : Int) ≤ 10) = false := by simp; omega
        have d3 : decide ((n : Int) ≤ 10) = false := by simp; omega
        have hr := La.few_ten (f := Ma.lab m) (n := n) (by omega)
        have HR := Lib.hid hr; clear hr
        go_wp2_with fail
        go_ret
        rw [HR.out]
        exact ⟨rfl, hb⟩
      · have e : k = n := by omega
        subst e
        have d1 : decide ((k : Int) < (k : Int)) = false := by simp
        by_cases h10 : k ≤ 10
        · have hr := La.few_all (f := Ma.lab m) h10 hall
          have d3 : decide ((k : Int) ≤ 10) = true := by simp; omega
          have HR := Lib.hid hr; clear hr
          go_wp2_with fail
          go_ret
          rw [HR.out]
          exact ⟨rfl, hb⟩
        · have hr := La.few_ten (f := Ma.lab m) (n := k) (by omega)
          have d3 : decide ((k : Int) ≤ 10) = false := by simp; omega
          have HR := Lib.hid hr; clear hr
          go_wp2_with fail
          go_ret
          rw [HR.out]
          exact ⟨rfl, hb⟩

end Go.Proofs.Ytidfanmfibbiiaa
