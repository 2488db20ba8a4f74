/-
  What the functions of package num come to: what the cursor's calls read.
-/
import Derived.Test.YtieoncjdhileoaaNumD
namespace Go.Proofs.Ytieoncjdhileoaa
open Go.RowKit

namespace Num
/-- bytes as a number, the lowest first -/
def num : List UInt8 → Nat
  | [] => 0
  | b :: r => b.toNat + 256 * num r
theorem num_append (a b : List UInt8) : num (a ++ b) = num a + 256 ^ a.length * num b := by
  induction a with
  | nil => simp [num]
  | cons x a ih =>
    show x.toNat + 256 * num (a ++ b) = x.toNat + 256 * num a + 256 ^ (a.length + 1) * num b
    rw [ih, Nat.mul_add, Nat.pow_succ, Nat.mul_comm (256 ^ a.length) 256, Nat.mul_assoc, Nat.add_assoc]
theorem num_lt (l : List UInt8) : num l < 256 ^ l.length := by
  induction l with
  | nil => simp [num]
  | cons x l ih =>
    have hx := x.toNat_lt
    show x.toNat + 256 * num l < 256 ^ (l.length + 1)
    rw [Nat.pow_succ]; omega
theorem take_byte (s : ByteArray) (k : Nat) (h : k < s.size) : s.data.toList.take (k + 1) = s.data.toList.take k ++ [s[k]] := by
  rw [List.take_succ_eq_append_getElem (by simpa using h)]; rfl
theorem num_take (s : ByteArray) (k : Nat) (h : k < s.size) : num (s.data.toList.take (k + 1)) = num (s.data.toList.take k) + s[k].toNat * 256 ^ k := by
  rw [take_byte s k h, num_append]
  have hl : (s.data.toList.take k).length = k := by simp; omega
  rw [hl]
  show _ + 256 ^ k * (s[k].toNat + 256 * 0) = _
  rw [Nat.mul_zero, Nat.add_zero, Nat.mul_comm]
theorem num_take_lt (s : ByteArray) (k : Nat) (h : k ≤ s.size) : num (s.data.toList.take k) < 256 ^ k := by
  have := num_lt (s.data.toList.take k)
  rwa [show (s.data.toList.take k).length = k from by simp; omega] at this
theorem shl8 (b k : Nat) (hb : b * 256 ^ k < 18446744073709551616) : IntKind.u64.wrap ((b : Int) * 2 ^ (8 * k)) = ((b * 256 ^ k : Nat) : Int) := by
  have h : (256 : Nat) ^ k = 2 ^ (8 * k) := (Nat.pow_mul 2 8 k).symm
  have e : (b : Int) * 2 ^ (8 * k) = ((b * 256 ^ k : Nat) : Int) := by
    rw [h, Int.natCast_mul, Int.natCast_pow]; rfl
  rw [e, wrap_small _ hb]
theorem or8 (a b k : Nat) (ha : a < 256 ^ k) (hb : a + b * 256 ^ k < 18446744073709551616) : bits BinOp.or IntKind.u64 (a : Int) ((b * 256 ^ k : Nat) : Int) = ((a + b * 256 ^ k : Nat) : Int) := by
  have h : (256 : Nat) ^ k = 2 ^ (8 * k) := (Nat.pow_mul 2 8 k).symm
  rw [u64_or_nat _ _ (by omega) (by omega)]
  congr 1
  rw [Nat.or_comm, nat_join (8 * k) _ _ (by rw [h, Nat.mul_mod_left]) (by rw [← h]; exact ha), Nat.add_comm]
end Num

namespace Num
def tOk (n : Int) (s : ByteArray) : Bool := decide (0 ≤ n ∧ n ≤ s.size)
end Num

namespace Num
/-- the text that bytes begin with, of at most m bytes -/
def xOk (m : Int) (s : ByteArray) : Bool := (decp 0 0 s.data.toList).2.2 && decide (0 ≤ m ∧ ((decp 0 0 s.data.toList).1 : Int) ≤ m ∧ (decp 0 0 s.data.toList).1 + (decp 0 0 s.data.toList).2.1 ≤ s.size)
def xN (s : ByteArray) : Nat := (decp 0 0 s.data.toList).2.1 + (decp 0 0 s.data.toList).1
def xV (s : ByteArray) : ByteArray := s.extract (decp 0 0 s.data.toList).2.1 (xN s)
end Num

set_option maxRecDepth 100000 in
set_option maxHeartbeats 400000 in
theorem text_fn (s : ByteArray) (hs : s.size ≤ maxLen) (m : Int) (hm : Hid (-9223372036854775808 ≤ m ∧ m ≤ 9223372036854775807)) (x : Nat) (w : World) (hx : w.cell? ⟨x, 0, none⟩ = some (.int .i64 m)) :
    Calls Try.prog 52 #[.string s, .pointer (some ⟨x, 0, none⟩)] w fun e w' => e = .returned (.tuple #[.string (if Num.xOk m s = true then Num.xV s else ByteArray.empty), .int .i64 ((if Num.xOk m s = true then Num.xN s else 0 : Nat) : Int), .bool (Num.xOk m s)]) ∧ w = w' := by
  have hlt := Num.decp_lt s.data.toList 0 0 (by simp) (by omega)
  have hle : (Num.decp 0 0 s.data.toList).2.1 ≤ s.size := by have := Num.decp_snd s.data.toList 0 0; simp at this; omega
  have hcall := fun W => small_any s hs W
  have hok : Num.xOk m s = ((Num.decp 0 0 s.data.toList).2.2 && decide (0 ≤ m ∧ ((Num.decp 0 0 s.data.toList).1 : Int) ≤ m ∧ (Num.decp 0 0 s.data.toList).1 + (Num.decp 0 0 s.data.toList).2.1 ≤ s.size)) := rfl
  have hN : Num.xN s = (Num.decp 0 0 s.data.toList).2.1 + (Num.decp 0 0 s.data.toList).1 := rfl
  have hV : Num.xV s = s.extract (Num.decp 0 0 s.data.toList).2.1 (Num.xN s) := rfl
  unfold maxLen at hs
  generalize Num.decp 0 0 s.data.toList = D at *
  obtain ⟨v, n, ok⟩ := D
  simp only at *
  generalize Num.xV s = V at *
  generalize Num.xN s = N at *
  by_cases h : ok = true ∧ 0 ≤ m ∧ (v : Int) ≤ m ∧ v + n ≤ s.size
  · obtain ⟨rfl, h0, h1, h2⟩ := h
    rw [hok, Bool.true_and, decide_eq_true ⟨h0, h1, h2⟩]
    simp only [if_true]
    obtain ⟨u, rfl⟩ := Int.eq_ofNat_of_zero_le h0
    subst hN hV
    have hmm := hm.out
    have w1 := Num.wrap_small u (by omega)
    have w2 := Num.wrap_small (s.size - n) (by omega)
    rw [show ((s.size - n : Nat) : Int) = (s.size : Int) - n from by omega] at w2
    have w3 : wrap64 (v : Int) = v := IntWalk.wrap64_in _ ⟨by omega, by omega⟩
    have d1 : decide ((u : Int) < 0) = false := by simp
    have d2 : decide ((u : Int) < (v : Int)) = false := by simp; omega
    have d3 : decide ((s.size : Int) - n < (v : Int)) = false := by simp; omega
    have b1 : (n : Int) ≤ s.size := by omega
    have b2 : (n : Int) + v ≤ s.size := by omega
    have b3 : (0 : Int) ≤ (n : Int) + v := by omega
    have b4 : (n : Int) ≤ (n : Int) + v := by omega
    have HC := Lib.hid hcall; clear hcall hmm hlt h0 h2 hok
    go_enter Try.func52, Try.ntmps52
    go_wp2_with fail
    refine (HC.out _).mono ?_
    rintro e wx ⟨rfl, rfl⟩
    go_wp2_with fail
    go_ret3
    exact ⟨rfl, rfl⟩
  · have hb : (ok && decide (0 ≤ m ∧ (v : Int) ≤ m ∧ v + n ≤ s.size)) = false := by
      cases ok
      · rfl
      · simp only [Bool.true_and]; exact decide_eq_false (fun e => h ⟨rfl, e⟩)
    rw [hok, hb]
    simp only [Bool.false_eq_true, if_false]
    have HC := Lib.hid hcall; clear hcall hok hN hV hb
    have hmm := hm.out
    cases ok
    · clear hmm hlt h
      go_enter Try.func52, Try.ntmps52
      go_wp2_with fail
      refine (HC.out _).mono ?_
      rintro e wx ⟨rfl, rfl⟩
      go_wp2_with fail
      go_ret3
      exact ⟨rfl, rfl⟩
    · by_cases h0 : 0 ≤ m
      · obtain ⟨u, rfl⟩ := Int.eq_ofNat_of_zero_le h0
        have w1 := Num.wrap_small u (by omega)
        have w2 := Num.wrap_small (s.size - n) (by omega)
        rw [show ((s.size - n : Nat) : Int) = (s.size : Int) - n from by omega] at w2
        have d1 : decide ((u : Int) < 0) = false := by simp
        by_cases h1 : v ≤ u
        · have d2 : decide ((u : Int) < (v : Int)) = false := by simp; omega
          have d3 : decide ((s.size : Int) - n < (v : Int)) = true := by simp at h; simp; omega
          clear hmm hlt h
          go_enter Try.func52, Try.ntmps52
          go_wp2_with fail
          refine (HC.out _).mono ?_
          rintro e wx ⟨rfl, rfl⟩
          go_wp2_with fail
          go_ret3
          exact ⟨rfl, rfl⟩
        · have d2 : decide ((u : Int) < (v : Int)) = true := by simp; omega
          clear hmm hlt h
          go_enter Try.func52, Try.ntmps52
          go_wp2_with fail
          refine (HC.out _).mono ?_
          rintro e wx ⟨rfl, rfl⟩
          go_wp2_with fail
          go_ret3
          exact ⟨rfl, rfl⟩
      · have d1 : decide (m < 0) = true := by simp; omega
        clear hmm hlt h
        go_enter Try.func52, Try.ntmps52
        go_wp2_with fail
        refine (HC.out _).mono ?_
        rintro e wx ⟨rfl, rfl⟩
        go_wp2_with fail
        go_ret3
        exact ⟨rfl, rfl⟩

namespace Num
/-- the byte at a place; 0 where there is none -/
def byteAt (s : ByteArray) (k : Nat) : Nat := (s.data.toList.getD k 0).toNat
theorem byteAt_eq (s : ByteArray) (k : Nat) (h : k < s.size) : s[k].toNat = byteAt s k := by
  unfold byteAt
  have e : s.data.toList[k]? = some s[k] := by rw [List.getElem?_eq_getElem (by simpa using h)]; rfl
  rw [List.getD_eq_getElem?_getD, e]; rfl
theorem byteAt_lt (s : ByteArray) (k : Nat) : byteAt s k < 256 := UInt8.toNat_lt _
/-- there is a text of k bytes -/
def fMay (k : Nat) (s : ByteArray) : Prop := k < s.size ∧ byteAt s k ≤ k
def fV (k : Nat) (s : ByteArray) : ByteArray := s.extract 0 (byteAt s k)
def fOk (k : Nat) (s : ByteArray) : Bool := decide (fixedB (fV k s) k = s.extract 0 (k + 1))
theorem fixedB_size (s : ByteArray) (k : Nat) : (fixedB s k).size = k + 1 := by
  unfold fixedB; rw [ByteArray.size_mk']; simp [fixL_length]
theorem sz_nat (k : Nat) (h : k ≤ 255) : sz (k : Int) = k := by unfold sz; omega
end Num

end Go.Proofs.Ytieoncjdhileoaa
