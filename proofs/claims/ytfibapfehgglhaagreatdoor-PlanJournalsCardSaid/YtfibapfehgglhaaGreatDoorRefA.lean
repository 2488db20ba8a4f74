import Derived.Test.YtfibapfehgglhaaGreatDoorNumM
/-
  The plain mathematics of CRC-32C: bit by bit, and half a byte at a time, over natural numbers.
-/
namespace Go.Proofs.YtfibapfehgglhaaGreatDoor
namespace Crc

def poly : Nat := 2197175160
def top : Nat := 4294967296
/-- one bit -/
def step (c : Nat) : Nat := if c % 2 = 1 then (c / 2) ^^^ poly else c / 2
def steps : Nat → Nat → Nat
  | 0, c => c
  | n + 1, c => steps n (step c)
/-- one byte -/
def byte (c b : Nat) : Nat := steps 8 (c ^^^ b)
def run (c : Nat) (l : List UInt8) : Nat := l.foldl (fun c b => byte c b.toNat) c

theorem poly_lt : poly < 4294967296 := by decide
theorem xor_lt {a b : Nat} (ha : a < 4294967296) (hb : b < 4294967296) : a ^^^ b < 4294967296 :=
  Nat.xor_lt_two_pow (n := 32) ha hb
theorem step_lt {c : Nat} (h : c < 4294967296) : step c < 4294967296 := by
  unfold step; split
  · exact xor_lt (by omega) poly_lt
  · omega
theorem steps_lt (n : Nat) : ∀ {c : Nat}, c < 4294967296 → steps n c < 4294967296 := by
  induction n with
  | zero => exact fun h => h
  | succ n ih => exact fun h => ih (step_lt h)
theorem byte_lt {c b : Nat} (h : c < 4294967296) (hb : b < 4294967296) : byte c b < 4294967296 := steps_lt 8 (xor_lt h hb)
theorem u8_lt (b : UInt8) : b.toNat < 4294967296 := by have := b.toNat_lt; omega
theorem run_lt (l : List UInt8) : ∀ {c : Nat}, c < 4294967296 → run c l < 4294967296 := by
  induction l with
  | nil => exact fun h => h
  | cons b l ih => exact fun h => ih (byte_lt h (u8_lt b))
theorem run_append (c : Nat) (a b : List UInt8) : run c (a ++ b) = run (run c a) b := by
  unfold run; rw [List.foldl_append]
theorem xor_top (c : Nat) (h : c < 4294967296) : 4294967295 ^^^ c = 4294967295 - c := by
  apply Nat.eq_of_testBit_eq
  intro i
  have e1 : 4294967295 - c = 2 ^ 32 - (c + 1) := by omega
  have e2 : (4294967295 : Nat) = 2 ^ 32 - 1 := rfl
  rw [Nat.testBit_xor, e1, Nat.testBit_two_pow_sub_succ (by omega), e2, Nat.testBit_two_pow_sub_one]
  by_cases hi : i < 32
  · simp [hi]
  · have : c.testBit i = false := Nat.testBit_lt_two_pow (Nat.lt_of_lt_of_le h (Nat.pow_le_pow_right (by decide) (Nat.not_lt.1 hi) : 2 ^ 32 ≤ 2 ^ i))
    simp [hi, this]
theorem take_snoc (s : ByteArray) (k : Nat) (h : k < s.size) : s.data.toList.take (k + 1) = s.data.toList.take k ++ [s[k]] := by
  rw [List.take_succ_eq_append_getElem (by simpa using h)]; rfl
theorem run_take (c : Nat) (s : ByteArray) (k : Nat) (h : k < s.size) : run c (s.data.toList.take (k + 1)) = steps 8 (run c (s.data.toList.take k) ^^^ s[k].toNat) := by
  rw [take_snoc s k h, run_append]; rfl
theorem run_nil (c : Nat) : run c [] = c := rfl
theorem steps_succ (n : Nat) : ∀ c, steps (n + 1) c = step (steps n c) := by
  induction n with
  | zero => exact fun c => rfl
  | succ n ih => exact fun c => ih (step c)
theorem steps_add (m n : Nat) : ∀ c, steps (m + n) c = steps n (steps m c) := by
  induction m with
  | zero => intro c; simp [steps]
  | succ m ih => intro c; rw [Nat.succ_add]; exact ih (step c)

theorem xor_half (a b : Nat) : (a ^^^ b) / 2 = (a / 2) ^^^ (b / 2) := by
  have := Nat.shiftRight_xor_distrib (a := a) (b := b) (i := 1)
  simpa [Nat.shiftRight_succ] using this
theorem xor_odd (a b : Nat) : (a ^^^ b) % 2 = (a % 2 + b % 2) % 2 := by
  have h := Nat.testBit_xor a b 0
  simp only [Nat.testBit_zero] at h
  rcases Nat.mod_two_eq_zero_or_one a with ha | ha <;> rcases Nat.mod_two_eq_zero_or_one b with hb | hb <;> rcases Nat.mod_two_eq_zero_or_one (a ^^^ b) with hc | hc <;> simp_all
theorem step_xor (a b : Nat) : step (a ^^^ b) = step a ^^^ step b := by
  unfold step
  rw [xor_odd, xor_half]
  rcases Nat.mod_two_eq_zero_or_one a with ha | ha <;> rcases Nat.mod_two_eq_zero_or_one b with hb | hb <;> simp only [ha, hb]
  · simp
  · simp [Nat.xor_assoc]
  · simp only [if_true, Nat.zero_ne_one, if_false]
    rw [Nat.xor_assoc, Nat.xor_comm (b / 2) poly, ← Nat.xor_assoc]
  · have : a / 2 ^^^ poly ^^^ (b / 2 ^^^ poly) = a / 2 ^^^ b / 2 := by
      rw [Nat.xor_comm (b / 2) poly, ← Nat.xor_assoc, Nat.xor_assoc (a / 2) poly poly, Nat.xor_self, Nat.xor_zero]
    simp [this]
theorem steps_xor (n : Nat) : ∀ a b, steps n (a ^^^ b) = steps n a ^^^ steps n b := by
  induction n with
  | zero => exact fun a b => rfl
  | succ n ih => intro a b; simp only [steps]; rw [step_xor, ih]
theorem step_two (q : Nat) : step (2 * q) = q := by
  unfold step; rw [if_neg (by omega)]; omega
theorem steps4_sixteen (q : Nat) : steps 4 (16 * q) = q := by
  have h1 : 16 * q = 2 * (2 * (2 * (2 * q))) := by omega
  rw [h1]; simp only [steps, step_two]
theorem join16 (q r : Nat) (h : r < 16) : (16 * q) ^^^ r = 16 * q + r := by
  apply Nat.eq_of_testBit_eq
  intro i
  rw [Nat.testBit_xor]
  have e : 16 * q + r = 2 ^ 4 * q + r := rfl
  rw [e, Nat.testBit_two_pow_mul_add _ h, show 16 * q = 2 ^ 4 * q from rfl, Nat.testBit_two_pow_mul]
  by_cases hi : i < 4
  · simp [hi, Nat.not_le.2 hi]
  · have : r.testBit i = false := Nat.testBit_lt_two_pow (Nat.lt_of_lt_of_le h (Nat.pow_le_pow_right (by decide) (Nat.not_lt.1 hi) : 2 ^ 4 ≤ 2 ^ i))
    simp [hi, this, Nat.not_lt.1 hi]
/-- half a byte at once -/
theorem steps4 (c : Nat) : steps 4 c = (c / 16) ^^^ steps 4 (c % 16) := by
  have h : c = (16 * (c / 16)) ^^^ (c % 16) := by rw [join16 _ _ (by omega)]; omega
  conv => lhs; rw [h]
  rw [steps_xor, steps4_sixteen]
theorem steps4_lt (i : Nat) (h : i < 4294967296) : steps 4 i < 4294967296 := steps_lt 4 h
theorem run_take2 (c : Nat) (s : ByteArray) (k : Nat) (h : k < s.size) : run c (s.data.toList.take (k + 1)) = steps 4 (steps 4 (run c (s.data.toList.take k) ^^^ s[k].toNat)) := by
  rw [run_take c s k h]; exact steps_add 4 4 _
theorem byte_halves (c b : Nat) : byte c b = steps 4 (steps 4 (c ^^^ b)) := steps_add 4 4 _

end Crc
end Go.Proofs.YtfibapfehgglhaaGreatDoor
/-
  What the functions of the reference alluviumref01 come to: run.
-/
namespace Go.Proofs.YtfibapfehgglhaaGreatDoor
open Go.RowKit

end Go.Proofs.YtfibapfehgglhaaGreatDoor
