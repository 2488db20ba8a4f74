/-
  What small of package num comes to: the number that a text begins with.
-/
import Derived.Test.YtokofifecdpmfaaDoorNumA
namespace Go.Proofs.YtokofifecdpmfaaDoor
open Go.RowKit

theorem Num.wrap_small (b : Nat) (h : b < 18446744073709551616) : IntKind.u64.wrap (b : Int) = (b : Int) := by
  rw [IntKind.wrap_u64]; omega
theorem Num.shl_byte (b k : Nat) (hb : b % 128 * 128 ^ k < 18446744073709551616) : IntKind.u64.wrap ((b : Int) % 128 * 2 ^ (7 * k)) = ((b % 128 * 128 ^ k : Nat) : Int) := by
  have h : (128 : Nat) ^ k = 2 ^ (7 * k) := (Nat.pow_mul 2 7 k).symm
  have e : (b : Int) % 128 * 2 ^ (7 * k) = ((b % 128 * 128 ^ k : Nat) : Int) := by
    rw [h, Int.natCast_mul, Int.natCast_emod, Int.natCast_pow]; rfl
  rw [e, Num.wrap_small _ hb]
theorem Num.or_byte (a b k : Nat) (ha : a < 128 ^ k) (hb : a + b % 128 * 128 ^ k < 18446744073709551616) : bits BinOp.or IntKind.u64 (a : Int) ((b % 128 * 128 ^ k : Nat) : Int) = ((a + b % 128 * 128 ^ k : Nat) : Int) := by
  have h : (128 : Nat) ^ k = 2 ^ (7 * k) := (Nat.pow_mul 2 7 k).symm
  rw [u64_or_nat _ _ (by omega) (by omega)]
  congr 1
  rw [Nat.or_comm, nat_join (7 * k) _ _ (by rw [h, Nat.mul_mod_left]) (by rw [← h]; exact ha), Nat.add_comm]
theorem Num.room (a b k : Nat) (ha : a < 128 ^ k) (hk : k < 10) (h9 : ¬ (k = 9 ∧ 1 < b)) : a + b % 128 * 128 ^ k < 18446744073709551616 := by
  rcases Nat.lt_or_ge k 9 with h | h
  · have h1 : b % 128 * 128 ^ k ≤ 127 * 128 ^ k := Nat.mul_le_mul_right _ (by omega)
    have h2 : 128 ^ (k + 1) ≤ 128 ^ 9 := Nat.pow_le_pow_right (by decide) (by omega)
    rw [Nat.pow_succ] at h2
    omega
  · obtain rfl : k = 9 := by omega
    have h1 : b % 128 * 128 ^ 9 ≤ 1 * 128 ^ 9 := Nat.mul_le_mul_right _ (by omega)
    omega
theorem Num.decp_stop (k a : Nat) (l : List UInt8) (h : l = [] ∨ 10 ≤ k) : decp k a l = (0, 0, false) := by
  cases l with
  | nil => rfl
  | cons b r =>
    rcases h with h | h
    · cases h
    · unfold decp; rw [if_pos (.inl h)]
theorem Num.decp_nine (k a : Nat) (b : UInt8) (r : List UInt8) (h : k = 9) (h1 : 1 < b.toNat) : decp k a (b :: r) = (0, 0, false) := by
  unfold decp; rw [if_pos (.inr ⟨h, h1⟩)]
theorem Num.decp_low (k a : Nat) (b : UInt8) (r : List UInt8) (hk : k < 10) (h : ¬ (k = 9 ∧ 1 < b.toNat)) (hl : b.toNat < 128) : decp k a (b :: r) = (a + b.toNat % 128 * 128 ^ k, k + 1, decide (b.toNat ≠ 0 ∨ k = 0)) := by
  unfold decp; rw [if_neg (by omega), if_pos hl]
theorem Num.decp_more (k a : Nat) (b : UInt8) (r : List UInt8) (hk : k < 10) (h : ¬ (k = 9 ∧ 1 < b.toNat)) (hl : ¬ b.toNat < 128) : decp k a (b :: r) = decp (k + 1) (a + b.toNat % 128 * 128 ^ k) r := by
  rw [decp, if_neg (by omega), if_neg hl]
theorem Num.less_more (a b k : Nat) (ha : a < 128 ^ k) : a + b % 128 * 128 ^ k < 128 ^ (k + 1) := by
  have h1 : b % 128 * 128 ^ k ≤ 127 * 128 ^ k := Nat.mul_le_mul_right _ (by omega)
  rw [Nat.pow_succ]; omega
theorem Num.drop_byte (s : ByteArray) (k : Nat) (h : k < s.size) : s.data.toList.drop k = s[k] :: s.data.toList.drop (k + 1) := by
  rw [List.drop_eq_getElem_cons (by simpa using h)]; rfl

set_option maxRecDepth 100000 in
set_option maxHeartbeats 1000000 in
theorem small_any (s : ByteArray) (hs : s.size ≤ maxLen) (w : World) :
    Calls Tryd.prog 66 #[.string s] w fun e w' => e = .returned (.tuple #[.int .u64 ((Num.decp 0 0 s.data.toList).1 : Nat), .int .i64 ((Num.decp 0 0 s.data.toList).2.1 : Nat), .bool (Num.decp 0 0 s.data.toList).2.2]) ∧ w = w' := by
  unfold maxLen at hs
  generalize hD : Num.decp 0 0 s.data.toList = D
  have HD := Lib.hid hD; clear hD
  go_enter Tryd.func66, Tryd.ntmps66
  go_wp2
  all_goals
    go_loop [5, 11] (fun v i => ∃ k a : Nat, k ≤ s.size ∧ k ≤ 10 ∧ i = .int .i64 k ∧ v = .int .u64 a ∧ Num.decp k a (s.data.toList.drop k) = D ∧ a < 128 ^ k) (fun _ i => 10 - (intOf i).toNat)
    case atStart => exact ⟨0, 0, by omega, by omega, rfl, rfl, HD.out, by simp⟩
    case round =>
      obtain ⟨k, a, hk1, hk2, rfl, rfl, hd, ha⟩ := hrel
      by_cases hk : k < s.size ∧ k < 10
      · obtain ⟨hk1', hk2'⟩ := hk
        rw [Num.drop_byte s k hk1'] at hd
        have hb := s[k].toNat_lt
        have HH := Lib.hid hd; have HA := Lib.hid ha; clear hd ha
        generalize hB : s[k].toNat = b at *
        have HB := Lib.hid hB
        have hw := Num.wrap_small b (by omega)
        by_cases h9 : k = 9 ∧ 1 < b
        · have hst := Num.decp_nine k a s[k] (s.data.toList.drop (k + 1)) h9.1 (by omega)
          obtain ⟨h9, h1⟩ := h9
          have e9 : ((k : Int) == 9) = true := by simp; omega
          have H9 := Lib.hid h9; have HST := Lib.hid hst; clear h9 hst
          go_wp2
          go_ret3
          rw [← HH.out, HST.out]
          exact ⟨rfl, rfl⟩
        · have hrm := Num.room a b k HA.out hk2' h9
          have hs1 := Num.shl_byte b k (by omega)
          have ho1 := Num.or_byte a b k HA.out hrm
          clear hrm
          obtain ⟨r, hr⟩ : ∃ r, a + b % 128 * 128 ^ k = r := ⟨_, rfl⟩
          rw [hr] at ho1
          obtain ⟨q, hq⟩ : ∃ q, b % 128 * 128 ^ k = q := ⟨_, rfl⟩
          rw [hq] at ho1 hs1
          have HQ := Lib.hid hq; have HR := Lib.hid hr; clear hq hr
          have hc : ((k : Int) == 9) = false ∨ (((k : Int) == 9) = true ∧ b ≤ 1) := by
            by_cases e : k = 9
            · right; simp [e]; omega
            · left; simp; omega
          by_cases hlow : b < 128
          · have hst := Num.decp_low k a s[k] (s.data.toList.drop (k + 1)) hk2' (by rw [hB]; exact h9) (by omega)
            have H9 := Lib.hid h9; have HST := Lib.hid hst; clear h9 hst
            by_cases hb0 : b = 0
            · have n1 : ((b : Int) != 0) = false := by simp; omega
              have n2 : ((b : Int) == 0) = true := by simp; omega
              have HB0 := Lib.hid hb0; clear hb0
              rcases hc with e9 | ⟨e9, h1⟩
              all_goals
                go_wp2
                go_ret3
                rw [← HH.out, HST.out, HB.out, HR.out]
                exact ⟨by rw [show decide (b ≠ 0 ∨ k = 0) = ((k : Int) == 0) from by have hb0 := HB0.out; by_cases hk0 : k = 0 <;> simp [hb0, hk0]]; rfl, rfl⟩
            · have n1 : ((b : Int) != 0) = true := by rw [bne_iff_ne]; omega
              have n2 : ((b : Int) == 0) = false := by simp; omega
              have HB0 := Lib.hid hb0; clear hb0
              rcases hc with e9 | ⟨e9, h1⟩
              all_goals
                go_wp2
                go_ret3
                rw [← HH.out, HST.out, HB.out, HR.out]
                exact ⟨by rw [show decide (b ≠ 0 ∨ k = 0) = true from by have hb0 := HB0.out; simp [hb0]]; rfl, rfl⟩
          · have hc2 : ((k : Int) == 9) = false := by
              rcases hc with e9 | ⟨e9, h1⟩
              · exact e9
              · omega
            have hst := Num.decp_more k a s[k] (s.data.toList.drop (k + 1)) hk2' (by rw [hB]; exact h9) (by omega)
            have H9 := Lib.hid h9; have HST := Lib.hid hst; clear h9 hst hc
            go_wp2
            go_round
            case rel =>
              refine ⟨k + 1, r, by omega, by omega, by go_num, rfl, ?_, by rw [← HR.out]; exact Num.less_more a b k HA.out⟩
              rw [← HH.out, HST.out, HB.out, HR.out]
            case measure => simp [intOf]; omega
      · have hst := Num.decp_stop k a (s.data.toList.drop k) (by
          rcases Nat.lt_or_ge k 10 with h | h
          · left; simp; omega
          · right; exact h)
        have HH := Lib.hid hd; have HST := Lib.hid hst; clear hd hst
        go_wp2
        go_ret3
        rw [← HH.out, HST.out]
        exact ⟨rfl, rfl⟩
end Go.Proofs.YtokofifecdpmfaaDoor
