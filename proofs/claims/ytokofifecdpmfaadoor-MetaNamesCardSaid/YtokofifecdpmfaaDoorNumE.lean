/-
  What the functions of package num come to: what the cursor's calls read.
-/
import Derived.Test.YtokofifecdpmfaaDoorNumD
namespace Go.Proofs.YtokofifecdpmfaaDoor
open Go.RowKit

namespace Num
/-- bytes as a number, the lowest first -/
def num : List UInt8 → Nat
  | [] => 0
  | b :: r => b.toNat + 256 * num r
theorem num_append (a b : List UInt8) : num (a ++ b) = num a + 256 ^ a.length * num b := by
  induction a with
  | nil => simp [num]
  | cons x a ih =>
    show x.toNat + 256 * num (a ++ b) = x.toNat + 256 * num a + 256 ^ (a.length + 1) * num b
    rw [ih, Nat.mul_add, Nat.pow_succ, Nat.mul_comm (256 ^ a.length) 256, Nat.mul_assoc, Nat.add_assoc]
theorem num_lt (l : List UInt8) : num l < 256 ^ l.length := by
  induction l with
  | nil => simp [num]
  | cons x l ih =>
    have hx := x.toNat_lt
    show x.toNat + 256 * num l < 256 ^ (l.length + 1)
    rw [Nat.pow_succ]; omega
theorem take_byte (s : ByteArray) (k : Nat) (h : k < s.size) : s.data.toList.take (k + 1) = s.data.toList.take k ++ [s[k]] := by
  rw [List.take_succ_eq_append_getElem (by simpa using h)]; rfl
theorem num_take (s : ByteArray) (k : Nat) (h : k < s.size) : num (s.data.toList.take (k + 1)) = num (s.data.toList.take k) + s[k].toNat * 256 ^ k := by
  rw [take_byte s k h, num_append]
  have hl : (s.data.toList.take k).length = k := by simp; omega
  rw [hl]
  show _ + 256 ^ k * (s[k].toNat + 256 * 0) = _
  rw [Nat.mul_zero, Nat.add_zero, Nat.mul_comm]
theorem num_take_lt (s : ByteArray) (k : Nat) (h : k ≤ s.size) : num (s.data.toList.take k) < 256 ^ k := by
  have := num_lt (s.data.toList.take k)
  rwa [show (s.data.toList.take k).length = k from by simp; omega] at this
theorem shl8 (b k : Nat) (hb : b * 256 ^ k < 18446744073709551616) : IntKind.u64.wrap ((b : Int) * 2 ^ (8 * k)) = ((b * 256 ^ k : Nat) : Int) := by
  have h : (256 : Nat) ^ k = 2 ^ (8 * k) := (Nat.pow_mul 2 8 k).symm
  have e : (b : Int) * 2 ^ (8 * k) = ((b * 256 ^ k : Nat) : Int) := by
    rw [h, Int.natCast_mul, Int.natCast_pow]; rfl
  rw [e, wrap_small _ hb]
theorem or8 (a b k : Nat) (ha : a < 256 ^ k) (hb : a + b * 256 ^ k < 18446744073709551616) : bits BinOp.or IntKind.u64 (a : Int) ((b * 256 ^ k : Nat) : Int) = ((a + b * 256 ^ k : Nat) : Int) := by
  have h : (256 : Nat) ^ k = 2 ^ (8 * k) := (Nat.pow_mul 2 8 k).symm
  rw [u64_or_nat _ _ (by omega) (by omega)]
  congr 1
  rw [Nat.or_comm, nat_join (8 * k) _ _ (by rw [h, Nat.mul_mod_left]) (by rw [← h]; exact ha), Nat.add_comm]
end Num

set_option maxRecDepth 100000 in
set_option maxHeartbeats 400000 in
theorem wide_fn (s : ByteArray) (hs : s.size ≤ maxLen) (w : World) :
    Calls Tryd.prog 69 #[.string s] w fun e w' => e = .returned (.tuple #[.int .u64 ((if decide (8 ≤ s.size) = true then Num.num (s.data.toList.take 8) else 0 : Nat) : Int), .int .i64 ((if decide (8 ≤ s.size) = true then 8 else 0 : Nat) : Int), .bool (decide (8 ≤ s.size))]) ∧ w = w' := by
  unfold maxLen at hs
  by_cases h8 : 8 ≤ s.size
  · rw [decide_eq_true h8]
    simp only [if_true]
    generalize hF : Num.num (s.data.toList.take 8) = fin
    have HF := Lib.hid hF; clear hF
    go_enter Tryd.func69, Tryd.ntmps69
    go_wp2
    go_loop [5, 10] (fun v i => ∃ k a : Nat, k ≤ 8 ∧ i = .int .i64 k ∧ v = .int .u64 a ∧ Num.num (s.data.toList.take k) = a) (fun _ i => 8 - (intOf i).toNat)
    case atStart => exact ⟨0, 0, by omega, rfl, rfl, by simp [Num.num]⟩
    case round =>
      obtain ⟨k, a, hk, rfl, rfl, ha⟩ := hrel
      by_cases hk8 : k < 8
      · have hlt := Num.num_take_lt s k (by omega)
        have hnx := Num.num_take s k (by omega)
        have hnl := Num.num_take_lt s (k + 1) (by omega)
        rw [ha] at hlt hnx
        have hb := s[k].toNat_lt
        have h256 : 256 ^ (k + 1) ≤ 256 ^ 8 := Nat.pow_le_pow_right (by decide) (by omega)
        rw [hnx] at hnl
        have hw := Num.wrap_small s[k].toNat (by omega)
        have hs1 := Num.shl8 s[k].toNat k (by omega)
        have ho1 := Num.or8 a s[k].toNat k hlt (by omega)
        clear hlt hnl h256
        generalize hB : s[k].toNat = b at *
        obtain ⟨r, hr⟩ : ∃ r, a + b * 256 ^ k = r := ⟨_, rfl⟩
        rw [hr] at ho1
        obtain ⟨q, hq⟩ : ∃ q, b * 256 ^ k = q := ⟨_, rfl⟩
        rw [hq] at ho1 hs1
        have HQ := Lib.hid hq; have HR := Lib.hid hr; have HN := Lib.hid hnx; have HA := Lib.hid ha
        clear hq hr hnx ha
        go_wp2
        go_round
        case rel => exact ⟨k + 1, r, by omega, by go_num, rfl, by rw [HN.out, HR.out]⟩
        case measure => simp [intOf]; omega
      · obtain rfl : k = 8 := by omega
        have HA := Lib.hid ha; clear ha
        go_wp2
        go_ret3
        exact ⟨by rw [← HF.out, HA.out]; rfl, rfl⟩
  · rw [decide_eq_false h8]
    go_enter Tryd.func69, Tryd.ntmps69
    go_wp2
    go_ret3
    exact ⟨rfl, rfl⟩

namespace Num
def tOk (n : Int) (s : ByteArray) : Bool := decide (0 ≤ n ∧ n ≤ s.size)
end Num

set_option maxRecDepth 100000 in
set_option maxHeartbeats 400000 in
theorem take_fn (s : ByteArray) (_hs : s.size ≤ maxLen) (n : Int) (x : Nat) (w : World) (hx : w.cell? ⟨x, 0, none⟩ = some (.int .i64 n)) :
    Calls Tryd.prog 68 #[.string s, .pointer (some ⟨x, 0, none⟩)] w fun e w' => e = .returned (.tuple #[.string (if Num.tOk n s = true then s.extract 0 n.toNat else ByteArray.empty), .int .i64 ((if Num.tOk n s = true then n.toNat else 0 : Nat) : Int), .bool (Num.tOk n s)]) ∧ Below w.heap.size w w' := by
  by_cases h : 0 ≤ n ∧ n ≤ s.size
  · rw [show Num.tOk n s = true from decide_eq_true h]
    simp only [if_true]
    obtain ⟨h0, h1⟩ := h
    obtain ⟨m, rfl⟩ := Int.eq_ofNat_of_zero_le h0
    have d1 : decide ((m : Int) < 0) = false := by simp
    have d2 : decide ((s.size : Int) < (m : Int)) = false := by simp; omega
    go_enter Tryd.func68, Tryd.ntmps68
    go_wp2
    go_quiet (fail)
    go_wp2
    go_ret3
    exact ⟨rfl, below_drewN (Below.refl _ _) _⟩
  · rw [show Num.tOk n s = false from decide_eq_false h]
    have hd : decide (n < 0) = true ∨ (decide (n < 0) = false ∧ decide ((s.size : Int) < n) = true) := by
      by_cases hn : n < 0
      · left; simpa using hn
      · right; simp; omega
    rcases hd with hd | ⟨hd, hd2⟩
    all_goals
      go_enter Tryd.func68, Tryd.ntmps68
      go_wp2
      go_ret3
      exact ⟨rfl, Below.refl _ _⟩

namespace Num
/-- the text that bytes begin with, of at most m bytes -/
def xOk (m : Int) (s : ByteArray) : Bool := (decp 0 0 s.data.toList).2.2 && decide (0 ≤ m ∧ ((decp 0 0 s.data.toList).1 : Int) ≤ m ∧ (decp 0 0 s.data.toList).1 + (decp 0 0 s.data.toList).2.1 ≤ s.size)
def xN (s : ByteArray) : Nat := (decp 0 0 s.data.toList).2.1 + (decp 0 0 s.data.toList).1
def xV (s : ByteArray) : ByteArray := s.extract (decp 0 0 s.data.toList).2.1 (xN s)
end Num

namespace Num
/-- the byte at a place; 0 where there is none -/
def byteAt (s : ByteArray) (k : Nat) : Nat := (s.data.toList.getD k 0).toNat
theorem byteAt_eq (s : ByteArray) (k : Nat) (h : k < s.size) : s[k].toNat = byteAt s k := by
  unfold byteAt
  have e : s.data.toList[k]? = some s[k] := by rw [List.getElem?_eq_getElem (by simpa using h)]; rfl
  rw [List.getD_eq_getElem?_getD, e]; rfl
theorem byteAt_lt (s : ByteArray) (k : Nat) : byteAt s k < 256 := UInt8.toNat_lt _
/-- there is a text of k bytes -/
def fMay (k : Nat) (s : ByteArray) : Prop := k < s.size ∧ byteAt s k ≤ k
def fV (k : Nat) (s : ByteArray) : ByteArray := s.extract 0 (byteAt s k)
def fOk (k : Nat) (s : ByteArray) : Bool := decide (fixedB (fV k s) k = s.extract 0 (k + 1))
theorem fixedB_size (s : ByteArray) (k : Nat) : (fixedB s k).size = k + 1 := by
  unfold fixedB; rw [ByteArray.size_mk']; simp [fixL_length]
theorem sz_nat (k : Nat) (h : k ≤ 255) : sz (k : Int) = k := by unfold sz; omega
end Num

end Go.Proofs.YtokofifecdpmfaaDoor
