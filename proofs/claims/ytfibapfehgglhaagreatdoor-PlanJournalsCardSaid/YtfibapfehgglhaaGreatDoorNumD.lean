import Derived.Test.YtfibapfehgglhaaGreatDoorNumM
import Derived.Deep.DeepMust
import Derived.Laws.DeepNot64
/-
  What the functions of package num come to: Small, Wide, size, small.
-/
namespace Go.Proofs.YtfibapfehgglhaaGreatDoor
open Go.RowKit

namespace Num
def smallB (n : Nat) : ByteArray := ⟨(small n).toArray⟩
theorem or128 (m : Nat) : bits BinOp.or IntKind.u8 ((m : Int) % 256) 128 = (((UInt8.ofNat (m % 128 + 128)).toNat : Nat) : Int) := by
  have h := u8_or_nat (m % 256) 128 (by omega) (by decide)
  have e : (m % 256 ||| 128 : Nat) = m % 128 + 128 := by
    have h1 := nat_bit 7 (m % 256)
    have h2 : m % 256 = (m % 256) / 128 * 128 + m % 128 := by omega
    rcases Nat.lt_or_ge (m % 256) 128 with hl | hl
    · rw [show m % 256 = m % 128 from by omega, Nat.or_comm, nat_join 7 128 (m % 128) (by decide) (by omega)]; omega
    · apply Nat.eq_of_testBit_eq
      intro i
      have e2 : m % 256 = 2 ^ 7 * 1 + m % 128 := by omega
      have e3 : m % 128 + 128 = 2 ^ 7 * 1 + m % 128 := by omega
      rw [Nat.testBit_or, e3, e2, Nat.testBit_two_pow_mul_add _ (by omega)]
      by_cases hi : i < 7
      · simp only [hi, if_true]
        have : (128 : Nat).testBit i = false := by
          rw [show (128 : Nat) = 2 ^ 7 from rfl, Nat.testBit_two_pow]; simp; omega
        simp [this]
      · simp only [hi, if_false]
        by_cases h7 : i = 7
        · subst h7; decide
        · have : (128 : Nat).testBit i = false := by
            rw [show (128 : Nat) = 2 ^ 7 from rfl, Nat.testBit_two_pow]; simp; omega
          simp [this]
  have e4 : ((m % 256 : Nat) : Int) = (m : Int) % 256 := by omega
  rw [e4] at h
  have e5 : (UInt8.ofNat (m % 128 + 128)).toNat = m % 128 + 128 := by simp; omega
  rw [e5, ← e]
  exact h
end Num

set_option maxRecDepth 100000 in
set_option maxHeartbeats 400000 in
theorem Small_any (n : Nat) (hn0 : Hid (n < 18446744073709551616)) (w : World) :
    Calls Tryz.prog 154 #[.int .u64 n] w fun e w' => e = .returned (.string (Num.smallB n)) ∧ Below w.heap.size w w' := by
  go_enter Tryz.func154, Tryz.ntmps154
  go_wp2
  have hz : (#[.int .u8 0, .int .u8 0, .int .u8 0, .int .u8 0, .int .u8 0, .int .u8 0, .int .u8 0, .int .u8 0, .int .u8 0, .int .u8 0] : Array Value) = byteCells ([] ++ List.replicate (10 - 0) 0) := rfl
  rw [hz]
  clear hz
  go_loopw [0, 4] (fun v i wr => ∃ (pre : List UInt8) (m : Nat), i = .int .i64 pre.length ∧ v = .int .u64 m ∧ pre.length ≤ 9 ∧ m < 2 * 128 ^ (9 - pre.length) ∧ Num.small n = pre ++ Num.enc (9 - pre.length) m ∧ wr = w.alloc (.cells (byteCells (pre ++ List.replicate (10 - pre.length) 0)) 312)) (fun v _ _ => (intOf v).toNat)
  case atStart => exact ⟨[], n, rfl, rfl, by simp, by have hn := hn0.out; simp; omega, rfl, rfl⟩
  case round =>
    obtain ⟨pre, m, rfl, rfl, hp, hm, hs, rfl⟩ := hrel
    have hmm : m < 18446744073709551616 := Nat.lt_of_lt_of_le hm (by have : 128 ^ (9 - pre.length) ≤ 128 ^ 9 := Nat.pow_le_pow_right (by decide) (by omega); omega)
    have hroom := byteCells_room pre (10 - pre.length) (by omega)
    have HS := Lib.hid hs; clear hs
    have HMM := Lib.hid hmm; clear hmm
    by_cases hc : 128 ≤ m
    · have hor := Num.or128 m
      have hp8 : pre.length ≤ 8 := by
        rcases Nat.lt_or_ge pre.length 9 with h | h
        · omega
        · rw [show 9 - pre.length = 0 from by omega] at hm; simp at hm; omega
      have hput := byteCells_put pre (10 - pre.length) (UInt8.ofNat (m % 128 + 128)) (by omega)
      have HM := Lib.hid hm; have HP := Lib.hid hput; clear hm hput
      generalize hX : (UInt8.ofNat (m % 128 + 128)) = x at *
      have HX := Lib.hid hX; clear hX
      go_wp2
      go_roundw
      case rel =>
        refine ⟨pre ++ [x], m / 128, by simp, by go_num, by simp; omega, ?_, ?_, ?_⟩
        · have h2 := Num.pow_split pre.length hp8
          have h3 := HM.out
          simp only [List.length_append, List.length_cons, List.length_nil, Nat.zero_add]
          rw [h2] at h3
          omega
        · rw [HS.out, List.append_assoc]
          congr 1
          rw [show 9 - pre.length = (9 - (pre ++ [x]).length) + 1 from by simp; omega, Num.enc, if_pos hc, HX.out]
          rfl
        · rw [HP.out]
          simp only [List.length_append, List.length_cons, List.length_nil]
          rw [show 10 - pre.length - 1 = 10 - (pre.length + (0 + 1)) from by omega]
      case measure => simp [intOf]; omega
    · have hput := byteCells_put pre (10 - pre.length) (UInt8.ofNat m) (by omega)
      have hx : ((UInt8.ofNat m).toNat : Int) = m := by simp; omega
      rw [hx] at hput
      have hfin : Num.small n = pre ++ [UInt8.ofNat m] := by
        rw [HS.out]
        congr 1
        cases 9 - pre.length with
        | zero => rfl
        | succ f => rw [Num.enc, if_neg hc]
      have q1 : (pre.length : Int) + 1 ≤ 10 := by omega
      have q0 : (0 : Int) ≤ (pre.length : Int) + 1 := by omega
      have ht : (pre ++ [UInt8.ofNat m] ++ List.replicate (10 - pre.length - 1) 0).take (pre.length + 1) = pre ++ [UInt8.ofNat m] := List.take_left' (by simp)
      have HP := Lib.hid hput; have HF := Lib.hid hfin; have HT := Lib.hid ht; clear hput hfin ht
      go_wp2
      rw [HP.out, arr_take (P := Tryz.prog) _ w.heap.size 92 5 9 _ _ Tryz.underlying92 Tryz.underlying5 Tryz.underlying9 (heap_alloc_new w _) (pre.length + 1) 10 (by simp), HT.out]
      go_wp2
      go_ret
      refine ⟨?_, (Below.refl _ _).alloc (Nat.le_refl _) _⟩
      unfold Num.smallB
      rw [HF.out]
      rfl

namespace Num
/-- a number as k bytes, the lowest first -/
def le (n : Nat) : Nat → List UInt8
  | 0 => []
  | k + 1 => le n k ++ [UInt8.ofNat (n / 256 ^ k % 256)]
theorem le_length (n k : Nat) : (le n k).length = k := by
  induction k with
  | zero => rfl
  | succ k ih => simp [le, ih]
theorem wide_byte (n k : Nat) : (n : Int) / 2 ^ (8 * k) % 256 = (((UInt8.ofNat (n / 256 ^ k % 256)).toNat : Nat) : Int) := by
  have e : (UInt8.ofNat (n / 256 ^ k % 256)).toNat = n / 256 ^ k % 256 := by simp
  have h : (256 : Nat) ^ k = 2 ^ (8 * k) := (Nat.pow_mul 2 8 k).symm
  rw [e, h, Int.natCast_emod, Int.natCast_ediv, Int.natCast_pow]
  rfl
def wideB (n : Nat) : ByteArray := ⟨(le n 8).toArray⟩
end Num

set_option maxRecDepth 100000 in
set_option maxHeartbeats 400000 in
theorem Wide_any (n : Nat) (w : World) :
    Calls Tryz.prog 155 #[.int .u64 n] w fun e w' => e = .returned (.string (Num.wideB n)) ∧ Below w.heap.size w w' := by
  go_enter Tryz.func155, Tryz.ntmps155
  go_wp2
  have hz : (#[.int .u8 0, .int .u8 0, .int .u8 0, .int .u8 0, .int .u8 0, .int .u8 0, .int .u8 0, .int .u8 0] : Array Value) = byteCells (Num.le n 0 ++ List.replicate (8 - 0) 0) := rfl
  rw [hz]
  clear hz
  go_loopw [5] (fun i wr => ∃ k : Nat, k ≤ 8 ∧ i = .int .i64 k ∧ wr = w.alloc (.cells (byteCells (Num.le n k ++ List.replicate (8 - k) 0)) 313)) (fun i _ => 8 - (intOf i).toNat)
  case atStart => exact ⟨0, by omega, rfl, rfl⟩
  case round =>
    obtain ⟨k, hk, rfl, rfl⟩ := hrel
    by_cases h8 : k < 8
    · have hroom := byteCells_room (Num.le n k) (8 - k) (by omega)
      have hput := byteCells_put (Num.le n k) (8 - k) (UInt8.ofNat (n / 256 ^ k % 256)) (by omega)
      rw [Num.le_length] at hroom hput
      have HP := Lib.hid hput; clear hput
      go_wp2
      go_roundw
      case rel =>
        refine ⟨k + 1, by omega, by go_num, ?_⟩
        rw [Num.wide_byte, HP.out, show 8 - k - 1 = 8 - (k + 1) from by omega]
        rfl
      case measure => simp [intOf]; omega
    · obtain rfl : k = 8 := by omega
      go_wp2
      rw [arr_take (P := Tryz.prog) _ w.heap.size 92 5 9 _ _ Tryz.underlying92 Tryz.underlying5 Tryz.underlying9 (heap_alloc_new w _) 8 8 (by simp [Num.le_length])]
      go_wp2
      go_ret
      exact ⟨rfl, (Below.refl _ _).alloc (Nat.le_refl _) _⟩
namespace Num
def sz (n : Int) : Nat := (min (max n 0) 255).toNat
theorem sz_le (n : Int) : sz n ≤ 255 := by unfold sz; omega
end Num

set_option maxHeartbeats 400000 in
theorem size_any (n : Int) (w : World) :
    Calls Tryz.prog 313 #[.int .i64 n] w fun e w' => e = .returned (.int .i64 (Num.sz n : Nat)) ∧ w = w' := by
  go_enter Tryz.func313, Tryz.ntmps313
  go_wp2
  all_goals (go_ret; exact ⟨ret_int (by unfold Num.sz; omega), rfl⟩)

end Go.Proofs.YtfibapfehgglhaaGreatDoor
/-
  What small of package num comes to: the number that a text begins with.
-/
namespace Go.Proofs.YtfibapfehgglhaaGreatDoor
open Go.RowKit

theorem Num.wrap_small (b : Nat) (h : b < 18446744073709551616) : IntKind.u64.wrap (b : Int) = (b : Int) := by
  rw [IntKind.wrap_u64]; omega
theorem Num.shl_byte (b k : Nat) (hb : b % 128 * 128 ^ k < 18446744073709551616) : IntKind.u64.wrap ((b : Int) % 128 * 2 ^ (7 * k)) = ((b % 128 * 128 ^ k : Nat) : Int) := by
  have h : (128 : Nat) ^ k = 2 ^ (7 * k) := (Nat.pow_mul 2 7 k).symm
  have e : (b : Int) % 128 * 2 ^ (7 * k) = ((b % 128 * 128 ^ k : Nat) : Int) := by
    rw [h, Int.natCast_mul, Int.natCast_emod, Int.natCast_pow]; rfl
  rw [e, Num.wrap_small _ hb]
theorem Num.or_byte (a b k : Nat) (ha : a < 128 ^ k) (hb : a + b % 128 * 128 ^ k < 18446744073709551616) : bits BinOp.or IntKind.u64 (a : Int) ((b % 128 * 128 ^ k : Nat) : Int) = ((a + b % 128 * 128 ^ k : Nat) : Int) := by
  have h : (128 : Nat) ^ k = 2 ^ (7 * k) := (Nat.pow_mul 2 7 k).symm
  rw [u64_or_nat _ _ (by omega) (by omega)]
  congr 1
  rw [Nat.or_comm, nat_join (7 * k) _ _ (by rw [h, Nat.mul_mod_left]) (by rw [← h]; exact ha), Nat.add_comm]
theorem Num.room (a b k : Nat) (ha : a < 128 ^ k) (hk : k < 10) (h9 : ¬ (k = 9 ∧ 1 < b)) : a + b % 128 * 128 ^ k < 18446744073709551616 := by
  rcases Nat.lt_or_ge k 9 with h | h
  · have h1 : b % 128 * 128 ^ k ≤ 127 * 128 ^ k := Nat.mul_le_mul_right _ (by omega)
    have h2 : 128 ^ (k + 1) ≤ 128 ^ 9 := Nat.pow_le_pow_right (by decide) (by omega)
    rw [Nat.pow_succ] at h2
    omega
  · obtain rfl : k = 9 := by omega
    have h1 : b % 128 * 128 ^ 9 ≤ 1 * 128 ^ 9 := Nat.mul_le_mul_right _ (by omega)
    omega
theorem Num.decp_stop (k a : Nat) (l : List UInt8) (h : l = [] ∨ 10 ≤ k) : decp k a l = (0, 0, false) := by
  cases l with
  | nil => rfl
  | cons b r =>
    rcases h with h | h
    · cases h
    · unfold decp; rw [if_pos (.inl h)]
theorem Num.decp_nine (k a : Nat) (b : UInt8) (r : List UInt8) (h : k = 9) (h1 : 1 < b.toNat) : decp k a (b :: r) = (0, 0, false) := by
  unfold decp; rw [if_pos (.inr ⟨h, h1⟩)]
theorem Num.decp_low (k a : Nat) (b : UInt8) (r : List UInt8) (hk : k < 10) (h : ¬ (k = 9 ∧ 1 < b.toNat)) (hl : b.toNat < 128) : decp k a (b :: r) = (a + b.toNat % 128 * 128 ^ k, k + 1, decide (b.toNat ≠ 0 ∨ k = 0)) := by
  unfold decp; rw [if_neg (by omega), if_pos hl]
theorem Num.decp_more (k a : Nat) (b : UInt8) (r : List UInt8) (hk : k < 10) (h : ¬ (k = 9 ∧ 1 < b.toNat)) (hl : ¬ b.toNat < 128) : decp k a (b :: r) = decp (k + 1) (a + b.toNat % 128 * 128 ^ k) r := by
  rw [decp, if_neg (by omega), if_neg hl]
theorem Num.less_more (a b k : Nat) (ha : a < 128 ^ k) : a + b % 128 * 128 ^ k < 128 ^ (k + 1) := by
  have h1 : b % 128 * 128 ^ k ≤ 127 * 128 ^ k := Nat.mul_le_mul_right _ (by omega)
  rw [Nat.pow_succ]; omega
theorem Num.drop_byte (s : ByteArray) (k : Nat) (h : k < s.size) : s.data.toList.drop k = s[k] :: s.data.toList.drop (k + 1) := by
  rw [List.drop_eq_getElem_cons (by simpa using h)]; rfl

set_option maxRecDepth 100000 in
set_option maxHeartbeats 1000000 in
theorem small_any (s : ByteArray) (hs : s.size ≤ maxLen) (w : World) :
    Calls Tryz.prog 164 #[.string s] w fun e w' => e = .returned (.tuple #[.int .u64 ((Num.decp 0 0 s.data.toList).1 : Nat), .int .i64 ((Num.decp 0 0 s.data.toList).2.1 : Nat), .bool (Num.decp 0 0 s.data.toList).2.2]) ∧ w = w' := by
  unfold maxLen at hs
  generalize hD : Num.decp 0 0 s.data.toList = D
  have HD := Lib.hid hD; clear hD
  go_enter Tryz.func164, Tryz.ntmps164
  go_wp2
  all_goals
    go_loop [5, 11] (fun v i => ∃ k a : Nat, k ≤ s.size ∧ k ≤ 10 ∧ i = .int .i64 k ∧ v = .int .u64 a ∧ Num.decp k a (s.data.toList.drop k) = D ∧ a < 128 ^ k) (fun _ i => 10 - (intOf i).toNat)
    case atStart => exact ⟨0, 0, by omega, by omega, rfl, rfl, HD.out, by simp⟩
    case round =>
      obtain ⟨k, a, hk1, hk2, rfl, rfl, hd, ha⟩ := hrel
      by_cases hk : k < s.size ∧ k < 10
      · obtain ⟨hk1', hk2'⟩ := hk
        rw [Num.drop_byte s k hk1'] at hd
        have hb := s[k].toNat_lt
        have HH := Lib.hid hd; have HA := Lib.hid ha; clear hd ha
        generalize hB : s[k].toNat = b at *
        have HB := Lib.hid hB
        have hw := Num.wrap_small b (by omega)
        by_cases h9 : k = 9 ∧ 1 < b
        · have hst := Num.decp_nine k a s[k] (s.data.toList.drop (k + 1)) h9.1 (by omega)
          obtain ⟨h9, h1⟩ := h9
          have e9 : ((k : Int) == 9) = true := by simp; omega
          have H9 := Lib.hid h9; have HST := Lib.hid hst; clear h9 hst
          go_wp2
          go_ret3
          rw [← HH.out, HST.out]
          exact ⟨rfl, rfl⟩
        · have hrm := Num.room a b k HA.out hk2' h9
          have hs1 := Num.shl_byte b k (by omega)
          have ho1 := Num.or_byte a b k HA.out hrm
          clear hrm
          obtain ⟨r, hr⟩ : ∃ r, a + b % 128 * 128 ^ k = r := ⟨_, rfl⟩
          rw [hr] at ho1
          obtain ⟨q, hq⟩ : ∃ q, b % 128 * 128 ^ k = q := ⟨_, rfl⟩
          rw [hq] at ho1 hs1
          have HQ := Lib.hid hq; have HR := Lib.hid hr; clear hq hr
          have hc : ((k : Int) == 9) = false ∨ (((k : Int) == 9) = true ∧ b ≤ 1) := by
            by_cases e : k = 9
            · right; simp [e]; omega
            · left; simp; omega
          by_cases hlow : b < 128
          · have hst := Num.decp_low k a s[k] (s.data.toList.drop (k + 1)) hk2' (by rw [hB]; exact h9) (by omega)
            have H9 := Lib.hid h9; have HST := Lib.hid hst; clear h9 hst
            by_cases hb0 : b = 0
            · have n1 : ((b : Int) != 0) = false := by simp; omega
              have n2 : ((b : Int) == 0) = true := by simp; omega
              have HB0 := Lib.hid hb0; clear hb0
              rcases hc with e9 | ⟨e9, h1⟩
              all_goals
                go_wp2
                go_ret3
                rw [← HH.out, HST.out, HB.out, HR.out]
                exact ⟨by rw [show decide (b ≠ 0 ∨ k = 0) = ((k : Int) == 0) from by have hb0 := HB0.out; by_cases hk0 : k = 0 <;> simp [hb0, hk0]]; rfl, rfl⟩
            · have n1 : ((b : Int) != 0) = true := by rw [bne_iff_ne]; omega
              have n2 : ((b : Int) == 0) = false := by simp; omega
              have HB0 := Lib.hid hb0; clear hb0
              rcases hc with e9 | ⟨e9, h1⟩
              all_goals
                go_wp2
                go_ret3
                rw [← HH.out, HST.out, HB.out, HR.out]
                exact ⟨by rw [show decide (b ≠ 0 ∨ k = 0) = true from by have hb0 := HB0.out; simp [hb0]]; rfl, rfl⟩
          · have hc2 : ((k : Int) == 9) = false := by
              rcases hc with e9 | ⟨e9, h1⟩
              · exact e9
              · omega
            have hst := Num.decp_more k a s[k] (s.data.toList.drop (k + 1)) hk2' (by rw [hB]; exact h9) (by omega)
            have H9 := Lib.hid h9; have HST := Lib.hid hst; clear h9 hst hc
            go_wp2
            go_round
            case rel =>
              refine ⟨k + 1, r, by omega, by omega, by go_num, rfl, ?_, by rw [← HR.out]; exact Num.less_more a b k HA.out⟩
              rw [← HH.out, HST.out, HB.out, HR.out]
            case measure => simp [intOf]; omega
      · have hst := Num.decp_stop k a (s.data.toList.drop k) (by
          rcases Nat.lt_or_ge k 10 with h | h
          · left; simp; omega
          · right; exact h)
        have HH := Lib.hid hd; have HST := Lib.hid hst; clear hd hst
        go_wp2
        go_ret3
        rw [← HH.out, HST.out]
        exact ⟨rfl, rfl⟩
end Go.Proofs.YtfibapfehgglhaaGreatDoor
/-
  What the functions of package num come to: Zig, Zag, Text, Fixed.
-/
namespace Go.Proofs.YtfibapfehgglhaaGreatDoor
open Go.RowKit

namespace Num
theorem xor_mask (k c : Nat) (h : c < 2 ^ k) : (2 ^ k - 1) ^^^ c = 2 ^ k - 1 - c := by
  apply Nat.eq_of_testBit_eq
  intro i
  have e1 : 2 ^ k - 1 - c = 2 ^ k - (c + 1) := by omega
  rw [Nat.testBit_xor, e1, Nat.testBit_two_pow_sub_succ h, Nat.testBit_two_pow_sub_one]
  by_cases hi : i < k
  · simp [hi]
  · have : c.testBit i = false := Nat.testBit_lt_two_pow (Nat.lt_of_lt_of_le h (Nat.pow_le_pow_right (by decide) (Nat.not_lt.1 hi)))
    simp [hi, this]
theorem bits_xor_comm (k : IntKind) (x y : Int) : bits .xor k x y = bits .xor k y x := by
  simp only [bits]; rw [BitVec.xor_comm]
def zig (n : Int) : Nat := if 0 ≤ n then (2 * n).toNat else (-2 * n - 1).toNat
def zag (n : Nat) : Int := if n % 2 = 0 then ((n / 2 : Nat) : Int) else -((n / 2 : Nat) : Int) - 1
theorem zig_lt (n : Int) (h0 : -9223372036854775808 ≤ n) (h1 : n ≤ 9223372036854775807) : zig n < 18446744073709551616 := by
  unfold zig; split <;> omega
theorem zag_bd (n : Nat) (h : n < 18446744073709551616) : -9223372036854775808 ≤ zag n ∧ zag n ≤ 9223372036854775807 := by
  unfold zag; split <;> omega
theorem zag_zig (n : Int) : zag (zig n) = n := by
  unfold zig zag; split <;> split <;> omega
theorem zig_zag (n : Nat) : zig (zag n) = n := by
  unfold zig zag; split <;> split <;> omega
theorem zig_bits (n : Int) (h0 : -9223372036854775808 ≤ n) (h1 : n ≤ 9223372036854775807) :
    bits BinOp.xor .u64 (IntKind.u64.wrap (wrap64 (n * 2))) (IntKind.u64.wrap (n / 9223372036854775808)) = (zig n : Nat) := by
  unfold wrap64
  rw [IntKind.wrap_u64, IntKind.wrap_u64]
  by_cases hp : 0 ≤ n
  · have e1 : ((n * 2 + 9223372036854775808) % 18446744073709551616 - 9223372036854775808) % 18446744073709551616 = ((2 * n).toNat : Nat) := by omega
    have e2 : n / 9223372036854775808 % 18446744073709551616 = ((0 : Nat) : Int) := by omega
    rw [e1, e2]
    rw [u64_xor_nat _ _ (by omega) (by omega), Nat.xor_zero, zig, if_pos hp]
  · have e1 : ((n * 2 + 9223372036854775808) % 18446744073709551616 - 9223372036854775808) % 18446744073709551616 = ((2 * n + 18446744073709551616).toNat : Nat) := by omega
    have e2 : n / 9223372036854775808 % 18446744073709551616 = ((18446744073709551615 : Nat) : Int) := by omega
    rw [e1, e2]
    rw [u64_xor_nat _ _ (by omega) (by omega), Nat.xor_comm, show (18446744073709551615 : Nat) = 2 ^ 64 - 1 from rfl, xor_mask 64 _ (by omega), zig, if_neg hp]
    omega
theorem xor_i64_zero (a : Nat) (ha : a < 9223372036854775808) : bits .xor .i64 (a : Int) 0 = a := by
  have e : (BitVec.ofInt 64 (a : Int) ^^^ BitVec.ofInt 64 0) = BitVec.ofInt 64 (a : Int) := by simp
  have e2 : (BitVec.ofInt 64 (a : Int)).toNat = a := by rw [BitVec.toNat_ofInt]; omega
  show IntKind.i64.wrap ((BitVec.ofInt 64 (a : Int) ^^^ BitVec.ofInt 64 0).toNat : Int) = a
  rw [e, e2, IntKind.wrap_i64]
  omega
theorem zag_bits (n : Nat) (h : n < 18446744073709551616) :
    bits BinOp.xor .i64 (wrap64 ((n : Int) / 2)) (wrap64 (-wrap64 (bits BinOp.and .u64 (n : Int) 1))) = zag n := by
  have ha : bits BinOp.and .u64 (n : Int) 1 = ((n % 2 : Nat) : Int) := by
    rw [← nat_mask1]; exact u64_and_nat n 1 h (by decide)
  rw [ha]
  have e0 : wrap64 ((n : Int) / 2) = ((n / 2 : Nat) : Int) := by rw [IntWalk.wrap64_in _ (by omega)]; omega
  rw [e0]
  unfold zag
  rcases Nat.mod_two_eq_zero_or_one n with hm | hm
  · rw [hm, if_pos rfl, show wrap64 (-wrap64 ((0 : Nat) : Int)) = 0 from by simp [wrap64], xor_i64_zero _ (by omega)]
  · rw [hm, if_neg (by decide), show wrap64 (-wrap64 ((1 : Nat) : Int)) = -1 from by simp [wrap64], bits_xor_comm, i64_not _ (by omega)]
    omega
end Num

set_option maxRecDepth 100000 in
set_option maxHeartbeats 400000 in
theorem Zig_any (n : Int) (hn : Hid (-9223372036854775808 ≤ n ∧ n ≤ 9223372036854775807)) (w : World) :
    Calls Tryz.prog 105 #[.int .i64 n] w fun e w' => e = .returned (.int .u64 (Num.zig n : Nat)) ∧ w = w' := by
  go_enter Tryz.func105, Tryz.ntmps105
  go_wp2
  go_ret
  exact ⟨ret_int (Num.zig_bits n hn.out.1 hn.out.2), rfl⟩

set_option maxRecDepth 100000 in
set_option maxHeartbeats 400000 in
theorem Zag_any (n : Nat) (hn : Hid (n < 18446744073709551616)) (w : World) :
    Calls Tryz.prog 116 #[.int .u64 n] w fun e w' => e = .returned (.int .i64 (Num.zag n)) ∧ w = w' := by
  go_enter Tryz.func116, Tryz.ntmps116
  go_wp2
  go_ret
  exact ⟨ret_int (Num.zag_bits n hn.out), rfl⟩

set_option maxRecDepth 100000 in
set_option maxHeartbeats 400000 in
theorem Text_any (s : ByteArray) (hs : s.size ≤ 300) (w : World) :
    Calls Tryz.prog 158 #[.string s] w fun e w' => e = .returned (.string (Num.smallB s.size ++ s)) ∧ Below w.heap.size w w' := by
  have hw := Num.wrap_small s.size (by omega)
  have hz : (Num.smallB s.size).size ≤ 10 := Num.enc_length_le 9 _
  have HZ := Lib.hid hz; clear hz
  go_enter Tryz.func158, Tryz.ntmps158
  go_wp2_with fail
  refine (Small_any s.size (Lib.hid (by omega)) _).mono ?_; rintro e w1 ⟨rfl, hb1⟩; have HB1 := Lib.hid hb1; clear hb1
  have hz := HZ.out
  go_wp2_with fail
  go_ret
  exact ⟨rfl, HB1.out⟩

theorem zero256 (w : World) : (zeroValue 338).run Tryz.prog w = .ok (.agg (byteCells (List.replicate 256 0))) w := by kernel_rfl

theorem Tryz.size5 : (Tryz.prog.info? 5).map (·.size) = some 1 := by kernel_rfl

namespace Num
/-- a text as k bytes, and one of its length -/
def fixL (t : List UInt8) (k : Nat) : List UInt8 := t.take k ++ List.replicate (k - (t.take k).length) 0 ++ [UInt8.ofNat (t.take k).length]
def fixedB (s : ByteArray) (k : Nat) : ByteArray := ⟨(fixL s.data.toList k).toArray⟩
theorem fixL_length (t : List UInt8) (k : Nat) : (fixL t k).length = k + 1 := by simp [fixL]; omega
theorem fix_cells (t : List UInt8) (k n : Nat) (ht : t.length ≤ k) (hk : k < n) (hn : t.length ≤ 255) :
    (byteCells (t ++ List.replicate (n - t.length) 0)).setIfInBounds k (.int .u8 (t.length : Int)) = byteCells (fixL t k ++ List.replicate (n - (k + 1)) 0) := by
  have e : t ++ List.replicate (n - t.length) (0 : UInt8) = (t ++ List.replicate (k - t.length) 0) ++ List.replicate (n - k) 0 := by
    rw [List.append_assoc, List.replicate_append_replicate]
    congr 2; omega
  have h := byteCells_put (t ++ List.replicate (k - t.length) 0) (n - k) (UInt8.ofNat t.length) (by omega)
  have hl : (t ++ List.replicate (k - t.length) (0 : UInt8)).length = k := by simp; omega
  have hx : ((UInt8.ofNat t.length).toNat : Int) = t.length := by simp; omega
  rw [hl, hx] at h
  rw [e, h]
  have ht2 : t.take k = t := List.take_of_length_le ht
  unfold fixL
  rw [ht2, show n - k - 1 = n - (k + 1) from by omega]
theorem fix_take (t : List UInt8) (k n : Nat) : (fixL t k ++ List.replicate n 0).take (k + 1) = fixL t k := List.take_left' (fixL_length t k)
end Num

set_option maxRecDepth 100000 in
set_option maxHeartbeats 400000 in
theorem Fixed_any (s : ByteArray) (hs : s.size ≤ maxLen) (n : Int) (w : World) :
    Calls Tryz.prog 280 #[.string s, .int .i64 n] w fun e w' => e = .returned (.string (Num.fixedB s (Num.sz n))) ∧ Below w.heap.size w w' := by
  unfold maxLen at hs
  have hk := Num.sz_le n
  have hzz := zero256
  go_enter Tryz.func280, Tryz.ntmps280
  go_wp2_with fail
  refine (size_any n _).mono ?_; rintro e wx ⟨rfl, rfl⟩
  generalize hK : Num.sz n = k at *
  have HK := Lib.hid hK; clear hK
  have q0 : (0 : Int) ≤ (k : Int) := by omega
  have q1 : (k : Int) ≤ 256 := by omega
  have q2 : (0 : Int) ≤ (k : Int) + 1 := by omega
  have q3 : (k : Int) + 1 ≤ 256 := by omega
  generalize hZ : byteCells (List.replicate 256 0) = Z at *
  have HZ := Lib.hid hZ; clear hZ
  by_cases hlen : s.size ≤ k
  · have hL : s.data.toList.length = s.size := by simp
    have hput := Num.fix_cells s.data.toList k 256 (by omega) (by omega) (by omega)
    have hroom : (byteCells (s.data.toList ++ List.replicate (256 - s.size) 0))[k]? = some (.int .u8 0) := by
      have h1 : s.data.toList ++ List.replicate (256 - s.size) (0 : UInt8) = (s.data.toList ++ List.replicate (k - s.size) 0) ++ List.replicate (256 - k) 0 := by
        rw [List.append_assoc, List.replicate_append_replicate]
        congr 2; omega
      have h2 := byteCells_room (s.data.toList ++ List.replicate (k - s.size) 0) (256 - k) (by omega)
      rw [h1]
      rw [show (s.data.toList ++ List.replicate (k - s.size) (0 : UInt8)).length = k from by simp; omega] at h2
      exact h2
    rw [hL] at hput
    have hc := copy_new (P := Tryz.prog) w 92 9 3 5 338 k 256 s 256 Tryz.underlying92 Tryz.size5 hlen (by omega)
    rw [HZ.out] at hc
    have HP := Lib.hid hput; clear hput
    go_wp2
    rw [HP.out, arr_take (P := Tryz.prog) _ w.heap.size 92 5 9 _ _ Tryz.underlying92 Tryz.underlying5 Tryz.underlying9 (heap_alloc_new w _) (k + 1) 256 (by simp [Num.fixL_length]), Num.fix_take]
    go_wp2
    go_ret
    refine ⟨?_, (Below.refl _ _).alloc (Nat.le_refl _) _⟩
    rw [HK.out]; rfl
  · have hx : (s.extract 0 k).data.toList = s.data.toList.take k := by
      simp [ByteArray.data_extract, Array.toList_extract]
    have hsz : (s.extract 0 k).size = k := by simp; omega
    have hput := Num.fix_cells (s.data.toList.take k) k 256 (by simp; omega) (by omega) (by simp; omega)
    have hlt : (s.data.toList.take k).length = k := by simp; omega
    have hroom : (byteCells (s.data.toList.take k ++ List.replicate (256 - k) 0))[k]? = some (.int .u8 0) := by
      have h2 := byteCells_room (s.data.toList.take k) (256 - k) (by omega)
      rw [hlt] at h2
      exact h2
    rw [hlt] at hput
    have hc := copy_new (P := Tryz.prog) w 92 9 3 5 338 k 256 (s.extract 0 k) 256 Tryz.underlying92 Tryz.size5 (by omega) (by omega)
    rw [HZ.out, hx, hsz] at hc
    have HP := Lib.hid hput; have HSZ := Lib.hid hsz; clear hput hlt hsz hx
    go_wp2
    rw [Nat.min_eq_left (Nat.le_of_not_le hlen), HP.out, arr_take (P := Tryz.prog) _ w.heap.size 92 5 9 _ _ Tryz.underlying92 Tryz.underlying5 Tryz.underlying9 (heap_alloc_new w _) (k + 1) 256 (by simp [Num.fixL_length]), Num.fix_take]
    go_wp2
    go_ret
    refine ⟨?_, (Below.refl _ _).alloc (Nat.le_refl _) _⟩
    rw [HK.out]
    unfold Num.fixedB Num.fixL
    rw [List.take_take, Nat.min_self]
    rfl
end Go.Proofs.YtfibapfehgglhaaGreatDoor
/-
  What the functions of package num come to: the cursor.
-/
namespace Go.Proofs.YtfibapfehgglhaaGreatDoor
open Go.RowKit

/-- what a cursor is told, and what it has then -/
def Num.curV {α : Type} (bad ok : Bool) (v z : α) : α := if bad || !ok then z else v
/-- the cursor at block b -/
def CurAt (b : Nat) (s : ByteArray) (bad : Bool) (w : World) : Prop := w.heap[b]? = some (.cells #[.string s, .bool bad] 190 (0, 0))
theorem CurAt.cells {b : Nat} {s : ByteArray} {bad : Bool} {w : World} (h : CurAt b s bad w) : w.cell? ⟨b, 0, none⟩ = some (.string s) ∧ w.cell? ⟨b, 1, none⟩ = some (.bool bad) ∧ w.frozen? ⟨b, 0, none⟩ = false ∧ w.frozen? ⟨b, 1, none⟩ = false :=
  ⟨cell_of_row w b 0 _ _ _ h, cell_of_row w b 1 _ _ _ h, frozen_of_row w b 0 _ _ h, frozen_of_row w b 1 _ _ h⟩
theorem CurAt.putS {b : Nat} {s : ByteArray} {bad : Bool} {w : World} (h : CurAt b s bad w) (t : ByteArray) : CurAt b t bad (w.setCell ⟨b, 0, none⟩ (.string t)) := heap_setCell_same w b 0 _ _ _ h
theorem CurAt.putBad {b : Nat} {s : ByteArray} {bad : Bool} {w : World} (h : CurAt b s bad w) (t : Bool) : CurAt b s t (w.setCell ⟨b, 1, none⟩ (.bool t)) := heap_setCell_same w b 1 _ _ _ h
theorem CurAt.drew {b : Nat} {s : ByteArray} {bad : Bool} {w : World} (h : CurAt b s bad w) : CurAt b s bad w.drew := h

set_option maxRecDepth 100000 in
set_option maxHeartbeats 400000 in
theorem take_small (b : Nat) (s : ByteArray) (hs : s.size ≤ maxLen) (bad : Bool) (w : World) (hc : CurAt b s bad w) :
    Calls Tryz.prog 163 #[.pointer (some ⟨b, 0, none⟩), .func (.func 164) #[] #[]] w fun e w' => e = .returned (.int .u64 ((Num.curV bad ((Num.decp 0 0 s.data.toList).2.2) ((Num.decp 0 0 s.data.toList).1) 0 : Nat) : Int)) ∧ CurAt b (Num.curV bad ((Num.decp 0 0 s.data.toList).2.2) (s.extract ((Num.decp 0 0 s.data.toList).2.1) s.size) s) (bad || !(Num.decp 0 0 s.data.toList).2.2) w' ∧ w.grownBy w' (some b) := by
  have hn : (Num.decp 0 0 s.data.toList).2.2 = true → (Num.decp 0 0 s.data.toList).2.1 ≤ s.size := fun _ => by have := Num.decp_snd s.data.toList 0 0; simp at this; omega
  have hcall := fun W (hW : Below w.heap.size w W) => (small_any s hs W).mono (R' := fun e w' => e = .returned (.tuple #[.int .u64 ((Num.decp 0 0 s.data.toList).1 : Nat), .int .i64 ((Num.decp 0 0 s.data.toList).2.1 : Nat), .bool (Num.decp 0 0 s.data.toList).2.2]) ∧ Below w.heap.size w w') (fun e w' ⟨h1, h2⟩ => ⟨h1, h2 ▸ hW⟩)
  obtain ⟨c0, c1, f0, f1⟩ := hc.cells
  have HC := Lib.hid hc; have HCALL := Lib.hid hcall; have HN := Lib.hid hn
  clear hc hcall hn
  unfold maxLen at hs
  generalize (Num.decp 0 0 s.data.toList).2.2 = ok at *
  generalize (Num.decp 0 0 s.data.toList).1 = v at *
  generalize (Num.decp 0 0 s.data.toList).2.1 = n at *
  cases bad
  · go_enter Tryz.func163, Tryz.ntmps163
    go_wp2_with fail
    refine (HCALL.out _ (Below.refl _ _)).mono ?_
    rintro e w1 ⟨rfl, hb⟩
    have HC1 : Hid (CurAt b s false w1) := heap_keep HC.out hb
    have HG := Lib.hid (grown_of_below (row := some b) hb)
    clear hb c0 c1 f0 f1
    obtain ⟨c0, c1, f0, f1⟩ := HC1.out.cells
    cases ok
    · go_wp2
      go_ret
      exact ⟨rfl, HC1.out.putBad true, grown_trans HG.out (grown_setCell _ _ _ _)⟩
    · have h1 : (0 : Int) ≤ (n : Int) := by omega
      have h2 : (n : Int) ≤ s.size := by have := HN.out rfl; omega
      go_wp2
      go_ret
      exact ⟨rfl, HC1.out.putS _, grown_trans HG.out (grown_setCell _ _ _ _)⟩
  · go_enter Tryz.func163, Tryz.ntmps163
    go_wp2
    go_ret
    exact ⟨rfl, HC.out, grown_refl _ _⟩

end Go.Proofs.YtfibapfehgglhaaGreatDoor
