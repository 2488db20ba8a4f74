/-
  How many bits 0 are ahead, and behind: the reference, and what holds.
-/
import Derived.Test.YtfgcgjogaaofdaaGreatDoorCom
import Derived.Test.YtfgcgjogaaofdaaGreatDoorBitS
import Derived.Lib.ItoaNum
namespace Go.Proofs.YtfgcgjogaaofdaaGreatDoor
open Go.RowKit
namespace Bit
theorem of_get (v : Nat) : ∀ n j, j < n → (of v n).getD j false = v.testBit (n - 1 - j)
  | 0, j, h => by omega
  | n + 1, 0, _ => rfl
  | n + 1, j + 1, h => by
    show (of v n).getD j false = _
    rw [of_get v n j (by omega)]
    congr 1; omega
theorem lead_zero (v k : Nat) (hk : k < 64) (h : v < 2 ^ (64 - k)) (hb : v.testBit (63 - k) = false) : v < 2 ^ (64 - (k + 1)) := by
  rw [Nat.testBit_eq_decide_div_mod_eq, decide_eq_false_iff_not] at hb
  rw [show 64 - k = (63 - k) + 1 from by omega, Nat.pow_succ] at h
  rw [show 64 - (k + 1) = 63 - k from by omega]
  have hp := Nat.two_pow_pos (63 - k)
  have h2 : v / 2 ^ (63 - k) < 2 := Nat.div_lt_of_lt_mul (by omega)
  have h3 : v / 2 ^ (63 - k) = 0 := by
    generalize v / 2 ^ (63 - k) = q at *
    clear h hp
    omega
  exact (Nat.div_eq_zero_iff_lt hp).1 h3
theorem lead_one (v k : Nat) (hk : k < 64) (h : v < 2 ^ (64 - k)) (hb : v.testBit (63 - k) = true) : Lib.bitLen v = 64 - k := by
  have h1 := Lib.bitLen_le v (64 - k) (by omega) h
  have hge : 2 ^ (63 - k) ≤ v := Nat.ge_two_pow_of_testBit hb
  have hp := Nat.two_pow_pos (63 - k)
  have h2 := (Lib.bitLenAux_bounds 64 v (Nat.lt_of_lt_of_le h (Nat.pow_le_pow_right (by decide) (by omega))) (by omega)).2.2
  have h3 : v < 2 ^ Lib.bitLen v := h2
  rcases Nat.lt_or_ge (Lib.bitLen v) (64 - k) with h4 | h4
  · have h5 : 2 ^ Lib.bitLen v ≤ 2 ^ (63 - k) := Nat.pow_le_pow_right (by decide) (by omega)
    omega
  · omega
theorem lead_end (v : Nat) (h : v < 2 ^ (64 - 64)) : Lib.bitLen v = 0 := by
  obtain rfl : v = 0 := by simpa using h
  rfl
theorem trail_zero (v k : Nat) (h : v % 2 ^ k = 0) (hb : v.testBit k = false) : v % 2 ^ (k + 1) = 0 := by
  rw [Nat.testBit_eq_decide_div_mod_eq, decide_eq_false_iff_not] at hb
  rw [Nat.mod_pow_succ, h]
  have : v / 2 ^ k % 2 = 0 := by omega
  rw [this]; simp
theorem trail_one (v k : Nat) (hv : v < 18446744073709551616) (h : v % 2 ^ k = 0) (hb : v.testBit k = true) : Lib.ctz 64 v = k := by
  have h0 : v ≠ 0 := by rintro rfl; simp at hb
  obtain ⟨m, hm, hc⟩ := Lib.ctzFrom_spec 64 v (by omega) hv
  have e : Lib.ctz 64 v = Lib.ctzFrom 64 v := by simp [Lib.ctz, h0]
  rw [e]
  generalize Lib.ctzFrom 64 v = c at *
  rcases Nat.lt_trichotomy k c with h1 | h1 | h1
  · exfalso
    rw [hm, Nat.testBit_two_pow_mul] at hb
    simp at hb
    omega
  · exact h1.symm
  · exfalso
    have h2 : v.testBit c = true := by
      rw [hm, Nat.testBit_two_pow_mul]
      simp
    have h3 : (v % 2 ^ k).testBit c = true := by
      rw [Nat.testBit_mod_two_pow]; simp [h1, h2]
    rw [h] at h3
    simp at h3
theorem trail_end (v : Nat) (hv : v < 18446744073709551616) (h : v % 2 ^ 64 = 0) : Lib.ctz 64 v = 64 := by
  obtain rfl : v = 0 := by omega
  rfl
theorem both_ends (v : Nat) (hv : v < 18446744073709551616) (h0 : 0 < v) : 64 - Lib.bitLen v + Lib.ctz 64 v ≤ 63 ∧ Lib.bitLen v ≤ 64 := by
  obtain ⟨m, hm, hc⟩ := Lib.ctzFrom_spec 64 v h0 hv
  have e : Lib.ctz 64 v = Lib.ctzFrom 64 v := by simp [Lib.ctz]; omega
  have h1 := (Lib.bitLenAux_bounds 64 v hv (by omega)).2.2
  have h2 : v < 2 ^ Lib.bitLen v := h1
  have hle := Lib.bitLen_le v 64 (by omega) hv
  rw [e]
  generalize Lib.ctzFrom 64 v = c at *
  have h3 : 2 ^ c ≤ v := by rw [hm]; exact Nat.le_mul_of_pos_right _ (by omega)
  have h4 : c < Lib.bitLen v := by
    rcases Nat.lt_or_ge c (Lib.bitLen v) with h | h
    · exact h
    · have : 2 ^ Lib.bitLen v ≤ 2 ^ c := Nat.pow_le_pow_right (by decide) h
      omega
  omega
end Bit

set_option maxRecDepth 100000 in
set_option maxHeartbeats 400000 in
theorem rLead_any (v : Nat) (hv : Hid (v < 18446744073709551616)) (w : World) :
    Calls Tryz.prog 42 #[.int .u64 v] w fun e w' => e = .returned (.int .i64 (64 - (Lib.bitLen v : Int))) ∧ w' = w := by
  have hc := fun W => rBits_any v hv 64 W
  have hw : Bit.wd 64 = 64 := rfl
  rw [hw] at hc
  have hz := Bit.str_size (Bit.of v 64)
  rw [Bit.of_length] at hz
  have hg : ∀ k (h : k < (Bit.str (Bit.of v 64)).size), (Bit.str (Bit.of v 64))[k] = Bit.chr (v.testBit (63 - k)) := fun k h => by
    rw [Bit.str_get, Bit.of_get _ _ _ (by omega)]
  generalize Bit.str (Bit.of v 64) = s at *
  have HC := Lib.hid hc; have HG := Lib.hid hg; have HZ := Lib.hid hz; clear hc hg hz hw
  go_enter Tryz.func42, Tryz.ntmps42
  go_wp2_with fail
  refine (HC.out _).mono ?_; rintro e wx ⟨rfl, rfl⟩
  go_wp2_with fail
  go_loop [4] (fun i => ∃ k : Nat, k ≤ 64 ∧ i = .int .i64 k ∧ Hid (v < 2 ^ (64 - k))) (fun i => 64 - (intOf i).toNat)
  case atStart => exact ⟨0, by omega, rfl, hv⟩
  case round =>
    obtain ⟨k, hk, rfl, h0⟩ := hrel
    by_cases hlt : k < 64
    · have hks : k < s.size := by have := HZ.out; omega
      have hsk := HG.out k hks
      cases hb : v.testBit (63 - k) with
      | false =>
        have e1 : ((s[k].toNat : Int) == 48) = true := by rw [hsk, hb]; rfl
        have hn := Lib.hid (Bit.lead_zero v k hlt h0.out hb)
        clear hsk hb
        go_wp2_with fail
        go_round
        case rel => exact ⟨k + 1, by omega, by go_num, hn⟩
        case measure => simp [intOf]; omega
      | true =>
        have e1 : ((s[k].toNat : Int) == 48) = false := by rw [hsk, hb]; rfl
        have hn := Lib.hid (Bit.lead_one v k hlt h0.out hb)
        clear hsk hb
        go_wp2_with fail
        go_ret
        exact ⟨ret_int (by rw [hn.out]; omega), rfl⟩
    · obtain rfl : k = 64 := by omega
      have hn := Lib.hid (Bit.lead_end v h0.out)
      go_wp2_with fail
      go_ret
      exact ⟨ret_int (by rw [hn.out]; rfl), rfl⟩

set_option maxRecDepth 100000 in
set_option maxHeartbeats 400000 in
theorem rTrail_any (v : Nat) (hv : Hid (v < 18446744073709551616)) (w : World) :
    Calls Tryz.prog 43 #[.int .u64 v] w fun e w' => e = .returned (.int .i64 (Lib.ctz 64 v)) ∧ w' = w := by
  have hc := fun W => rBits_any v hv 64 W
  have hw : Bit.wd 64 = 64 := rfl
  rw [hw] at hc
  have hz := Bit.str_size (Bit.of v 64)
  rw [Bit.of_length] at hz
  have hg : ∀ k (h : k < (Bit.str (Bit.of v 64)).size), (Bit.str (Bit.of v 64))[k] = Bit.chr (v.testBit (63 - k)) := fun k h => by
    rw [Bit.str_get, Bit.of_get _ _ _ (by omega)]
  generalize Bit.str (Bit.of v 64) = s at *
  have HC := Lib.hid hc; have HG := Lib.hid hg; have HZ := Lib.hid hz; clear hc hg hz hw
  go_enter Tryz.func43, Tryz.ntmps43
  go_wp2_with fail
  refine (HC.out _).mono ?_; rintro e wx ⟨rfl, rfl⟩
  go_wp2_with fail
  go_loop [4] (fun i => ∃ k : Nat, k ≤ 64 ∧ i = .int .i64 k ∧ Hid (v % 2 ^ k = 0)) (fun i => 64 - (intOf i).toNat)
  case atStart => exact ⟨0, by omega, rfl, Lib.hid (by simp [Nat.mod_one])⟩
  case round =>
    obtain ⟨k, hk, rfl, h0⟩ := hrel
    by_cases hlt : k < 64
    · have hks : 63 - k < s.size := by have := HZ.out; omega
      have hsk := HG.out (63 - k) hks
      have i1 : (0 : Int) ≤ 63 - (k : Int) := by omega
      have i2 : (63 : Int) - (k : Int) < (s.size : Int) := by have := HZ.out; omega
      have i3 : ((63 : Int) - (k : Int)).toNat = 63 - k := by omega
      rw [show 63 - (63 - k) = k from by omega] at hsk
      cases hb : v.testBit k with
      | false =>
        have e1 : ((s[63 - k].toNat : Int) == 48) = true := by rw [hsk, hb]; rfl
        have hn := Lib.hid (Bit.trail_zero v k h0.out hb)
        clear hsk hb
        go_wp2_with fail
        go_round
        case rel => exact ⟨k + 1, by omega, by go_num, hn⟩
        case measure => simp [intOf]; omega
      | true =>
        have e1 : ((s[63 - k].toNat : Int) == 48) = false := by rw [hsk, hb]; rfl
        have hn := Lib.hid (Bit.trail_one v k hv.out h0.out hb)
        clear hsk hb
        go_wp2_with fail
        go_ret
        exact ⟨ret_int (by rw [hn.out]), rfl⟩
    · obtain rfl : k = 64 := by omega
      have hn := Lib.hid (Bit.trail_end v hv.out h0.out)
      go_wp2_with fail
      go_ret
      exact ⟨ret_int (by rw [hn.out]; rfl), rfl⟩
end Go.Proofs.YtfgcgjogaaofdaaGreatDoor
