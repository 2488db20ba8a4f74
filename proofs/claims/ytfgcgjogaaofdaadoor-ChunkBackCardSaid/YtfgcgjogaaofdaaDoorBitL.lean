/-
  How many bits 0 are ahead, and behind: the reference, and what holds.
-/
import Derived.Test.YtfgcgjogaaofdaaDoorCom
import Derived.Test.YtfgcgjogaaofdaaDoorBitS
import Derived.Lib.ItoaNum
namespace Go.Proofs.YtfgcgjogaaofdaaDoor
open Go.RowKit
namespace Bit
theorem of_get (v : Nat) : ∀ n j, j < n → (of v n).getD j false = v.testBit (n - 1 - j)
  | 0, j, h => by omega
  | n + 1, 0, _ => rfl
  | n + 1, j + 1, h => by
    show (of v n).getD j false = _
    rw [of_get v n j (by omega)]
    congr 1; omega
theorem lead_zero (v k : Nat) (hk : k < 64) (h : v < 2 ^ (64 - k)) (hb : v.testBit (63 - k) = false) : v < 2 ^ (64 - (k + 1)) := by
  rw [Nat.testBit_eq_decide_div_mod_eq, decide_eq_false_iff_not] at hb
  rw [show 64 - k = (63 - k) + 1 from by omega, Nat.pow_succ] at h
  rw [show 64 - (k + 1) = 63 - k from by omega]
  have hp := Nat.two_pow_pos (63 - k)
  have h2 : v / 2 ^ (63 - k) < 2 := Nat.div_lt_of_lt_mul (by omega)
  have h3 : v / 2 ^ (63 - k) = 0 := by
    generalize v / 2 ^ (63 - k) = q at *
    clear h hp
    omega
  exact (Nat.div_eq_zero_iff_lt hp).1 h3
theorem lead_one (v k : Nat) (hk : k < 64) (h : v < 2 ^ (64 - k)) (hb : v.testBit (63 - k) = true) : Lib.bitLen v = 64 - k := by
  have h1 := Lib.bitLen_le v (64 - k) (by omega) h
  have hge : 2 ^ (63 - k) ≤ v := Nat.ge_two_pow_of_testBit hb
  have hp := Nat.two_pow_pos (63 - k)
  have h2 := (Lib.bitLenAux_bounds 64 v (Nat.lt_of_lt_of_le h (Nat.pow_le_pow_right (by decide) (by omega))) (by omega)).2.2
  have h3 : v < 2 ^ Lib.bitLen v := h2
  rcases Nat.lt_or_ge (Lib.bitLen v) (64 - k) with h4 | h4
  · have h5 : 2 ^ Lib.bitLen v ≤ 2 ^ (63 - k) := Nat.pow_le_pow_right (by decide) (by omega)
    omega
  · omega
theorem lead_end (v : Nat) (h : v < 2 ^ (64 - 64)) : Lib.bitLen v = 0 := by
  obtain rfl : v = 0 := by simpa using h
  rfl
theorem trail_zero (v k : Nat) (h : v % 2 ^ k = 0) (hb : v.testBit k = false) : v % 2 ^ (k + 1) = 0 := by
  rw [Nat.testBit_eq_decide_div_mod_eq, decide_eq_false_iff_not] at hb
  rw [Nat.mod_pow_succ, h]
  have : v / 2 ^ k % 2 = 0 := by omega
  rw [this]; simp
theorem trail_one (v k : Nat) (hv : v < 18446744073709551616) (h : v % 2 ^ k = 0) (hb : v.testBit k = true) : Lib.ctz 64 v = k := by
  have h0 : v ≠ 0 := by rintro rfl; simp at hb
  obtain ⟨m, hm, hc⟩ := Lib.ctzFrom_spec 64 v (by omega) hv
  have e : Lib.ctz 64 v = Lib.ctzFrom 64 v := by simp [Lib.ctz, h0]
  rw [e]
  generalize Lib.ctzFrom 64 v = c at *
  rcases Nat.lt_trichotomy k c with h1 | h1 | h1
  · exfalso
    rw [hm, Nat.testBit_two_pow_mul] at hb
    simp at hb
    omega
  · exact h1.symm
  · exfalso
    have h2 : v.testBit c = true := by
      rw [hm, Nat.testBit_two_pow_mul]
      simp
    have h3 : (v % 2 ^ k).testBit c = true := by
      rw [Nat.testBit_mod_two_pow]; simp [h1, h2]
    rw [h] at h3
    simp at h3
theorem trail_end (v : Nat) (hv : v < 18446744073709551616) (h : v % 2 ^ 64 = 0) : Lib.ctz 64 v = 64 := by
  obtain rfl : v = 0 := by omega
  rfl
theorem both_ends (v : Nat) (hv : v < 18446744073709551616) (h0 : 0 < v) : 64 - Lib.bitLen v + Lib.ctz 64 v ≤ 63 ∧ Lib.bitLen v ≤ 64 := by
  obtain ⟨m, hm, hc⟩ := Lib.ctzFrom_spec 64 v h0 hv
  have e : Lib.ctz 64 v = Lib.ctzFrom 64 v := by simp [Lib.ctz]; omega
  have h1 := (Lib.bitLenAux_bounds 64 v hv (by omega)).2.2
  have h2 : v < 2 ^ Lib.bitLen v := h1
  have hle := Lib.bitLen_le v 64 (by omega) hv
  rw [e]
  generalize Lib.ctzFrom 64 v = c at *
  have h3 : 2 ^ c ≤ v := by rw [hm]; exact Nat.le_mul_of_pos_right _ (by omega)
  have h4 : c < Lib.bitLen v := by
    rcases Nat.lt_or_ge c (Lib.bitLen v) with h | h
    · exact h
    · have : 2 ^ Lib.bitLen v ≤ 2 ^ c := Nat.pow_le_pow_right (by decide) h
      omega
  omega
end Bit

end Go.Proofs.YtfgcgjogaaofdaaDoor
