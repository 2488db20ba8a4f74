/-
  What the functions of package num come to: Small, Wide, size, small.
-/
import Derived.Test.YtokofifecdpmfaaDoorArr
import Derived.Test.YtokofifecdpmfaaDoorNumM
import Derived.Deep.DeepMust
namespace Go.Proofs.YtokofifecdpmfaaDoor
open Go.RowKit

namespace Num
def smallB (n : Nat) : ByteArray := ⟨(small n).toArray⟩
theorem or128 (m : Nat) : bits BinOp.or IntKind.u8 ((m : Int) % 256) 128 = (((UInt8.ofNat (m % 128 + 128)).toNat : Nat) : Int) := by
  have h := u8_or_nat (m % 256) 128 (by omega) (by decide)
  have e : (m % 256 ||| 128 : Nat) = m % 128 + 128 := by
    have h1 := nat_bit 7 (m % 256)
    have h2 : m % 256 = (m % 256) / 128 * 128 + m % 128 := by omega
    rcases Nat.lt_or_ge (m % 256) 128 with hl | hl
    · rw [show m % 256 = m % 128 from by omega, Nat.or_comm, nat_join 7 128 (m % 128) (by decide) (by omega)]; omega
    · apply Nat.eq_of_testBit_eq
      intro i
      have e2 : m % 256 = 2 ^ 7 * 1 + m % 128 := by omega
      have e3 : m % 128 + 128 = 2 ^ 7 * 1 + m % 128 := by omega
      rw [Nat.testBit_or, e3, e2, Nat.testBit_two_pow_mul_add _ (by omega)]
      by_cases hi : i < 7
      · simp only [hi, if_true]
        have : (128 : Nat).testBit i = false := by
          rw [show (128 : Nat) = 2 ^ 7 from rfl, Nat.testBit_two_pow]; simp; omega
        simp [this]
      · simp only [hi, if_false]
        by_cases h7 : i = 7
        · subst h7; decide
        · have : (128 : Nat).testBit i = false := by
            rw [show (128 : Nat) = 2 ^ 7 from rfl, Nat.testBit_two_pow]; simp; omega
          simp [this]
  have e4 : ((m % 256 : Nat) : Int) = (m : Int) % 256 := by omega
  rw [e4] at h
  have e5 : (UInt8.ofNat (m % 128 + 128)).toNat = m % 128 + 128 := by simp; omega
  rw [e5, ← e]
  exact h
end Num

set_option maxRecDepth 100000 in
set_option maxHeartbeats 400000 in
theorem Small_any (n : Nat) (hn0 : Hid (n < 18446744073709551616)) (w : World) :
    Calls Tryd.prog 43 #[.int .u64 n] w fun e w' => e = .returned (.string (Num.smallB n)) ∧ Below w.heap.size w w' := by
  go_enter Tryd.func43, Tryd.ntmps43
  go_wp2
  have hz : (#[.int .u8 0, .int .u8 0, .int .u8 0, .int .u8 0, .int .u8 0, .int .u8 0, .int .u8 0, .int .u8 0, .int .u8 0, .int .u8 0] : Array Value) = byteCells ([] ++ List.replicate (10 - 0) 0) := rfl
  rw [hz]
  clear hz
  go_loopw [0, 4] (fun v i wr => ∃ (pre : List UInt8) (m : Nat), i = .int .i64 pre.length ∧ v = .int .u64 m ∧ pre.length ≤ 9 ∧ m < 2 * 128 ^ (9 - pre.length) ∧ Num.small n = pre ++ Num.enc (9 - pre.length) m ∧ wr = w.alloc (.cells (byteCells (pre ++ List.replicate (10 - pre.length) 0)) 97)) (fun v _ _ => (intOf v).toNat)
  case atStart => exact ⟨[], n, rfl, rfl, by simp, by have hn := hn0.out; simp; omega, rfl, rfl⟩
  case round =>
    obtain ⟨pre, m, rfl, rfl, hp, hm, hs, rfl⟩ := hrel
    have hmm : m < 18446744073709551616 := Nat.lt_of_lt_of_le hm (by have : 128 ^ (9 - pre.length) ≤ 128 ^ 9 := Nat.pow_le_pow_right (by decide) (by omega); omega)
    have hroom := byteCells_room pre (10 - pre.length) (by omega)
    have HS := Lib.hid hs; clear hs
    have HMM := Lib.hid hmm; clear hmm
    by_cases hc : 128 ≤ m
    · have hor := Num.or128 m
      have hp8 : pre.length ≤ 8 := by
        rcases Nat.lt_or_ge pre.length 9 with h | h
        · omega
        · rw [show 9 - pre.length = 0 from by omega] at hm; simp at hm; omega
      have hput := byteCells_put pre (10 - pre.length) (UInt8.ofNat (m % 128 + 128)) (by omega)
      have HM := Lib.hid hm; have HP := Lib.hid hput; clear hm hput
      generalize hX : (UInt8.ofNat (m % 128 + 128)) = x at *
      have HX := Lib.hid hX; clear hX
      go_wp2
      go_roundw
      case rel =>
        refine ⟨pre ++ [x], m / 128, by simp, by go_num, by simp; omega, ?_, ?_, ?_⟩
        · have h2 := Num.pow_split pre.length hp8
          have h3 := HM.out
          simp only [List.length_append, List.length_cons, List.length_nil, Nat.zero_add]
          rw [h2] at h3
          omega
        · rw [HS.out, List.append_assoc]
          congr 1
          rw [show 9 - pre.length = (9 - (pre ++ [x]).length) + 1 from by simp; omega, Num.enc, if_pos hc, HX.out]
          rfl
        · rw [HP.out]
          simp only [List.length_append, List.length_cons, List.length_nil]
          rw [show 10 - pre.length - 1 = 10 - (pre.length + (0 + 1)) from by omega]
      case measure => simp [intOf]; omega
    · have hput := byteCells_put pre (10 - pre.length) (UInt8.ofNat m) (by omega)
      have hx : ((UInt8.ofNat m).toNat : Int) = m := by simp; omega
      rw [hx] at hput
      have hfin : Num.small n = pre ++ [UInt8.ofNat m] := by
        rw [HS.out]
        congr 1
        cases 9 - pre.length with
        | zero => rfl
        | succ f => rw [Num.enc, if_neg hc]
      have q1 : (pre.length : Int) + 1 ≤ 10 := by omega
      have q0 : (0 : Int) ≤ (pre.length : Int) + 1 := by omega
      have ht : (pre ++ [UInt8.ofNat m] ++ List.replicate (10 - pre.length - 1) 0).take (pre.length + 1) = pre ++ [UInt8.ofNat m] := List.take_left' (by simp)
      have HP := Lib.hid hput; have HF := Lib.hid hfin; have HT := Lib.hid ht; clear hput hfin ht
      go_wp2
      rw [HP.out, arr_take (P := Tryd.prog) _ w.heap.size 48 5 9 _ _ Tryd.underlying48 Tryd.underlying5 Tryd.underlying9 (heap_alloc_new w _) (pre.length + 1) 10 (by simp), HT.out]
      go_wp2
      go_ret
      refine ⟨?_, (Below.refl _ _).alloc (Nat.le_refl _) _⟩
      unfold Num.smallB
      rw [HF.out]
      rfl

namespace Num
/-- a number as k bytes, the lowest first -/
def le (n : Nat) : Nat → List UInt8
  | 0 => []
  | k + 1 => le n k ++ [UInt8.ofNat (n / 256 ^ k % 256)]
theorem le_length (n k : Nat) : (le n k).length = k := by
  induction k with
  | zero => rfl
  | succ k ih => simp [le, ih]
theorem wide_byte (n k : Nat) : (n : Int) / 2 ^ (8 * k) % 256 = (((UInt8.ofNat (n / 256 ^ k % 256)).toNat : Nat) : Int) := by
  have e : (UInt8.ofNat (n / 256 ^ k % 256)).toNat = n / 256 ^ k % 256 := by simp
  have h : (256 : Nat) ^ k = 2 ^ (8 * k) := (Nat.pow_mul 2 8 k).symm
  rw [e, h, Int.natCast_emod, Int.natCast_ediv, Int.natCast_pow]
  rfl
def wideB (n : Nat) : ByteArray := ⟨(le n 8).toArray⟩
end Num

set_option maxRecDepth 100000 in
set_option maxHeartbeats 400000 in
theorem Wide_any (n : Nat) (w : World) :
    Calls Tryd.prog 42 #[.int .u64 n] w fun e w' => e = .returned (.string (Num.wideB n)) ∧ Below w.heap.size w w' := by
  go_enter Tryd.func42, Tryd.ntmps42
  go_wp2
  have hz : (#[.int .u8 0, .int .u8 0, .int .u8 0, .int .u8 0, .int .u8 0, .int .u8 0, .int .u8 0, .int .u8 0] : Array Value) = byteCells (Num.le n 0 ++ List.replicate (8 - 0) 0) := rfl
  rw [hz]
  clear hz
  go_loopw [5] (fun i wr => ∃ k : Nat, k ≤ 8 ∧ i = .int .i64 k ∧ wr = w.alloc (.cells (byteCells (Num.le n k ++ List.replicate (8 - k) 0)) 96)) (fun i _ => 8 - (intOf i).toNat)
  case atStart => exact ⟨0, by omega, rfl, rfl⟩
  case round =>
    obtain ⟨k, hk, rfl, rfl⟩ := hrel
    by_cases h8 : k < 8
    · have hroom := byteCells_room (Num.le n k) (8 - k) (by omega)
      have hput := byteCells_put (Num.le n k) (8 - k) (UInt8.ofNat (n / 256 ^ k % 256)) (by omega)
      rw [Num.le_length] at hroom hput
      have HP := Lib.hid hput; clear hput
      go_wp2
      go_roundw
      case rel =>
        refine ⟨k + 1, by omega, by go_num, ?_⟩
        rw [Num.wide_byte, HP.out, show 8 - k - 1 = 8 - (k + 1) from by omega]
        rfl
      case measure => simp [intOf]; omega
    · obtain rfl : k = 8 := by omega
      go_wp2
      rw [arr_take (P := Tryd.prog) _ w.heap.size 48 5 9 _ _ Tryd.underlying48 Tryd.underlying5 Tryd.underlying9 (heap_alloc_new w _) 8 8 (by simp [Num.le_length])]
      go_wp2
      go_ret
      exact ⟨rfl, (Below.refl _ _).alloc (Nat.le_refl _) _⟩
namespace Num
def sz (n : Int) : Nat := (min (max n 0) 255).toNat
theorem sz_le (n : Int) : sz n ≤ 255 := by unfold sz; omega
end Num

end Go.Proofs.YtokofifecdpmfaaDoor
