/-
  What the functions of package num come to: Zig, Zag, Text, Fixed.
-/
import Derived.Test.YtokofifecdpmfaaDoorNumB
import Derived.Laws.DeepNot64
namespace Go.Proofs.YtokofifecdpmfaaDoor
open Go.RowKit

namespace Num
theorem xor_mask (k c : Nat) (h : c < 2 ^ k) : (2 ^ k - 1) ^^^ c = 2 ^ k - 1 - c := by
  apply Nat.eq_of_testBit_eq
  intro i
  have e1 : 2 ^ k - 1 - c = 2 ^ k - (c + 1) := by omega
  rw [Nat.testBit_xor, e1, Nat.testBit_two_pow_sub_succ h, Nat.testBit_two_pow_sub_one]
  by_cases hi : i < k
  · simp [hi]
  · have : c.testBit i = false := Nat.testBit_lt_two_pow (Nat.lt_of_lt_of_le h (Nat.pow_le_pow_right (by decide) (Nat.not_lt.1 hi)))
    simp [hi, this]
theorem bits_xor_comm (k : IntKind) (x y : Int) : bits .xor k x y = bits .xor k y x := by
  simp only [bits]; rw [BitVec.xor_comm]
def zig (n : Int) : Nat := if 0 ≤ n then (2 * n).toNat else (-2 * n - 1).toNat
def zag (n : Nat) : Int := if n % 2 = 0 then ((n / 2 : Nat) : Int) else -((n / 2 : Nat) : Int) - 1
theorem zig_lt (n : Int) (h0 : -9223372036854775808 ≤ n) (h1 : n ≤ 9223372036854775807) : zig n < 18446744073709551616 := by
  unfold zig; split <;> omega
theorem zag_bd (n : Nat) (h : n < 18446744073709551616) : -9223372036854775808 ≤ zag n ∧ zag n ≤ 9223372036854775807 := by
  unfold zag; split <;> omega
theorem zag_zig (n : Int) : zag (zig n) = n := by
  unfold zig zag; split <;> split <;> omega
theorem zig_zag (n : Nat) : zig (zag n) = n := by
  unfold zig zag; split <;> split <;> omega
theorem zig_bits (n : Int) (h0 : -9223372036854775808 ≤ n) (h1 : n ≤ 9223372036854775807) :
    bits BinOp.xor .u64 (IntKind.u64.wrap (wrap64 (n * 2))) (IntKind.u64.wrap (n / 9223372036854775808)) = (zig n : Nat) := by
  unfold wrap64
  rw [IntKind.wrap_u64, IntKind.wrap_u64]
  by_cases hp : 0 ≤ n
  · have e1 : ((n * 2 + 9223372036854775808) % 18446744073709551616 - 9223372036854775808) % 18446744073709551616 = ((2 * n).toNat : Nat) := by omega
    have e2 : n / 9223372036854775808 % 18446744073709551616 = ((0 : Nat) : Int) := by omega
    rw [e1, e2]
    rw [u64_xor_nat _ _ (by omega) (by omega), Nat.xor_zero, zig, if_pos hp]
  · have e1 : ((n * 2 + 9223372036854775808) % 18446744073709551616 - 9223372036854775808) % 18446744073709551616 = ((2 * n + 18446744073709551616).toNat : Nat) := by omega
    have e2 : n / 9223372036854775808 % 18446744073709551616 = ((18446744073709551615 : Nat) : Int) := by omega
    rw [e1, e2]
    rw [u64_xor_nat _ _ (by omega) (by omega), Nat.xor_comm, show (18446744073709551615 : Nat) = 2 ^ 64 - 1 from rfl, xor_mask 64 _ (by omega), zig, if_neg hp]
    omega
theorem xor_i64_zero (a : Nat) (ha : a < 9223372036854775808) : bits .xor .i64 (a : Int) 0 = a := by
  have e : (BitVec.ofInt 64 (a : Int) ^^^ BitVec.ofInt 64 0) = BitVec.ofInt 64 (a : Int) := by simp
  have e2 : (BitVec.ofInt 64 (a : Int)).toNat = a := by rw [BitVec.toNat_ofInt]; omega
  show IntKind.i64.wrap ((BitVec.ofInt 64 (a : Int) ^^^ BitVec.ofInt 64 0).toNat : Int) = a
  rw [e, e2, IntKind.wrap_i64]
  omega
theorem zag_bits (n : Nat) (h : n < 18446744073709551616) :
    bits BinOp.xor .i64 (wrap64 ((n : Int) / 2)) (wrap64 (-wrap64 (bits BinOp.and .u64 (n : Int) 1))) = zag n := by
  have ha : bits BinOp.and .u64 (n : Int) 1 = ((n % 2 : Nat) : Int) := by
    rw [← nat_mask1]; exact u64_and_nat n 1 h (by decide)
  rw [ha]
  have e0 : wrap64 ((n : Int) / 2) = ((n / 2 : Nat) : Int) := by rw [IntWalk.wrap64_in _ (by omega)]; omega
  rw [e0]
  unfold zag
  rcases Nat.mod_two_eq_zero_or_one n with hm | hm
  · rw [hm, if_pos rfl, show wrap64 (-wrap64 ((0 : Nat) : Int)) = 0 from by simp [wrap64], xor_i64_zero _ (by omega)]
  · rw [hm, if_neg (by decide), show wrap64 (-wrap64 ((1 : Nat) : Int)) = -1 from by simp [wrap64], bits_xor_comm, i64_not _ (by omega)]
    omega
end Num

set_option maxRecDepth 100000 in
set_option maxHeartbeats 400000 in
theorem Zig_any (n : Int) (hn : Hid (-9223372036854775808 ≤ n ∧ n ≤ 9223372036854775807)) (w : World) :
    Calls Tryd.prog 21 #[.int .i64 n] w fun e w' => e = .returned (.int .u64 (Num.zig n : Nat)) ∧ w = w' := by
  go_enter Tryd.func21, Tryd.ntmps21
  go_wp2
  go_ret
  exact ⟨ret_int (Num.zig_bits n hn.out.1 hn.out.2), rfl⟩

set_option maxRecDepth 100000 in
set_option maxHeartbeats 400000 in
theorem Zag_any (n : Nat) (hn : Hid (n < 18446744073709551616)) (w : World) :
    Calls Tryd.prog 50 #[.int .u64 n] w fun e w' => e = .returned (.int .i64 (Num.zag n)) ∧ w = w' := by
  go_enter Tryd.func50, Tryd.ntmps50
  go_wp2
  go_ret
  exact ⟨ret_int (Num.zag_bits n hn.out), rfl⟩

set_option maxRecDepth 100000 in
set_option maxHeartbeats 400000 in
theorem Text_any (s : ByteArray) (hs : s.size ≤ 300) (w : World) :
    Calls Tryd.prog 41 #[.string s] w fun e w' => e = .returned (.string (Num.smallB s.size ++ s)) ∧ Below w.heap.size w w' := by
  have hw := Num.wrap_small s.size (by omega)
  have hz : (Num.smallB s.size).size ≤ 10 := Num.enc_length_le 9 _
  have HZ := Lib.hid hz; clear hz
  go_enter Tryd.func41, Tryd.ntmps41
  go_wp2_with fail
  refine (Small_any s.size (Lib.hid (by omega)) _).mono ?_; rintro e w1 ⟨rfl, hb1⟩; have HB1 := Lib.hid hb1; clear hb1
  have hz := HZ.out
  go_wp2_with fail
  go_ret
  exact ⟨rfl, HB1.out⟩

theorem Tryd.size5 : (Tryd.prog.info? 5).map (·.size) = some 1 := by kernel_rfl

namespace Num
/-- a text as k bytes, and one of its length -/
def fixL (t : List UInt8) (k : Nat) : List UInt8 := t.take k ++ List.replicate (k - (t.take k).length) 0 ++ [UInt8.ofNat (t.take k).length]
def fixedB (s : ByteArray) (k : Nat) : ByteArray := ⟨(fixL s.data.toList k).toArray⟩
theorem fixL_length (t : List UInt8) (k : Nat) : (fixL t k).length = k + 1 := by simp [fixL]; omega
theorem fix_cells (t : List UInt8) (k n : Nat) (ht : t.length ≤ k) (hk : k < n) (hn : t.length ≤ 255) :
    (byteCells (t ++ List.replicate (n - t.length) 0)).setIfInBounds k (.int .u8 (t.length : Int)) = byteCells (fixL t k ++ List.replicate (n - (k + 1)) 0) := by
  have e : t ++ List.replicate (n - t.length) (0 : UInt8) = (t ++ List.replicate (k - t.length) 0) ++ List.replicate (n - k) 0 := by
    rw [List.append_assoc, List.replicate_append_replicate]
    congr 2; omega
  have h := byteCells_put (t ++ List.replicate (k - t.length) 0) (n - k) (UInt8.ofNat t.length) (by omega)
  have hl : (t ++ List.replicate (k - t.length) (0 : UInt8)).length = k := by simp; omega
  have hx : ((UInt8.ofNat t.length).toNat : Int) = t.length := by simp; omega
  rw [hl, hx] at h
  rw [e, h]
  have ht2 : t.take k = t := List.take_of_length_le ht
  unfold fixL
  rw [ht2, show n - k - 1 = n - (k + 1) from by omega]
theorem fix_take (t : List UInt8) (k n : Nat) : (fixL t k ++ List.replicate n 0).take (k + 1) = fixL t k := List.take_left' (fixL_length t k)
end Num

end Go.Proofs.YtokofifecdpmfaaDoor
