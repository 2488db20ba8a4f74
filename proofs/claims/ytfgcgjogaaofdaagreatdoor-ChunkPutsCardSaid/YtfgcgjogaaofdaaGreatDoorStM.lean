/-
  Times as bits: the mathematics.
-/
import Derived.Test.YtfgcgjogaaofdaaGreatDoorCom
namespace Go.Proofs.YtfgcgjogaaofdaaGreatDoor
open Go.RowKit
namespace St

def sw (x : Int) : Int := wrap64 x
def uw (x : Int) : Int := IntKind.u64.wrap x
/-- the class of a change -/
def cls (c : Int) : Nat := if c = 0 then 0 else if -63 ≤ c ∧ c ≤ 64 then 1 else if -255 ≤ c ∧ c ≤ 256 then 2 else if -2047 ≤ c ∧ c ≤ 2048 then 3 else 4
def low : Nat → Int | 0 => 0 | 1 => -63 | 2 => -255 | 3 => -2047 | _ => 0
def high : Nat → Int | 0 => 0 | 1 => 64 | 2 => 256 | 3 => 2048 | _ => 0
def plus : Nat → Int | 0 => 0 | 1 => 63 | 2 => 255 | 3 => 2047 | _ => 0
def mark : Nat → Nat | 0 => 0 | 1 => 2 | 2 => 6 | 3 => 14 | _ => 15
def marks : Nat → Nat | 0 => 1 | 1 => 2 | 2 => 3 | 3 => 4 | _ => 4
def size : Nat → Nat | 0 => 0 | 1 => 7 | 2 => 9 | 3 => 12 | _ => 64
theorem cls_lt (c : Int) : cls c < 5 := by unfold cls; split <;> (try split) <;> (try split) <;> (try split) <;> omega
theorem cls_cases (c : Int) : (c = 0 ∧ cls c = 0) ∨ (c ≠ 0 ∧ -63 ≤ c ∧ c ≤ 64 ∧ cls c = 1) ∨ ((c < -63 ∨ 64 < c) ∧ -255 ≤ c ∧ c ≤ 256 ∧ cls c = 2) ∨ ((c < -255 ∨ 256 < c) ∧ -2047 ≤ c ∧ c ≤ 2048 ∧ cls c = 3) ∨ ((c < -2047 ∨ 2048 < c) ∧ cls c = 4) := by
  unfold cls; split <;> (try split) <;> (try split) <;> (try split) <;> omega
/-- the cells of the table of classes -/
def cell (k : Nat) : List Value := [.int .i64 (low k), .int .i64 (high k), .int .i64 (plus k), .int .u64 (mark k), .int .i64 (marks k), .int .i64 (size k)]
/-- a state: how many, the last time, how far it is from the one ahead -/
structure S where
  n : Int
  t : Int
  d : Int
def S.val (s : S) : Value := .agg #[.int .i64 s.n, .int .i64 s.t, .int .i64 s.d]
def S.change (s : S) (t : Int) : Int := sw (sw (t - s.t) - s.d)
def S.next (s : S) (t : Int) : S := if s.n = 0 then ⟨1, t, 0⟩ else ⟨sw (s.n + 1), t, sw (t - s.t)⟩
/-- the bits of a change -/
def code (c : Int) : List Bool := Bit.of (mark (cls c)) (marks (cls c)) ++ Bit.of (uw (sw (c + plus (cls c)))).toNat (size (cls c))
def S.code (s : S) (t : Int) : List Bool := if s.n = 0 then Bit.of (uw t).toNat 64 else St.code (s.change t)
def S.cost (s : S) (t : Int) : Nat := if s.n = 0 then 64 else marks (cls (s.change t)) + size (cls (s.change t))
theorem code_length (c : Int) : (code c).length = marks (cls c) + size (cls c) := by simp [code, Bit.of_length]
theorem S.code_length (s : S) (t : Int) : (s.code t).length = s.cost t := by unfold S.code S.cost; split <;> simp [Bit.of_length, St.code_length]
theorem uw_range (x : Int) : 0 ≤ uw x ∧ uw x < 18446744073709551616 := by unfold uw IntKind.wrap; simp [IntKind.bits, IntKind.signed]; omega
theorem sw_range (x : Int) : -9223372036854775808 ≤ sw x ∧ sw x < 9223372036854775808 := by unfold sw wrap64; omega
end St
end Go.Proofs.YtfgcgjogaaofdaaGreatDoor
