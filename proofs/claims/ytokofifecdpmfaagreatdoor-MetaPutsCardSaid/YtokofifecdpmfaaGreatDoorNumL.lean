/-
  NumPuts, NumZig, NumSizes: the walks of the laws, given what works comes to.
-/
import Derived.Test.YtokofifecdpmfaaGreatDoorNumS
namespace Go.Proofs.YtokofifecdpmfaaGreatDoor
open Go.RowKit

theorem u64_nat (c : Int) (h : (Lit.int .u64 c).wf = true) : ∃ n : Nat, c = n ∧ Hid (n < 18446744073709551616) := by
  have hx : 0 ≤ c ∧ c ≤ 18446744073709551615 := by simpa [Lit.wf, IntKind.min, IntKind.max, IntKind.signed, IntKind.bits] using h
  exact ⟨c.toNat, by omega, Lib.hid (by omega)⟩
theorem i64_bd (c : Int) (h : (Lit.int .i64 c).wf = true) : Hid (-9223372036854775808 ≤ c ∧ c ≤ 9223372036854775807) := by
  have hx : -9223372036854775808 ≤ c ∧ c ≤ 9223372036854775807 := by simpa [Lit.wf, IntKind.min, IntKind.max, IntKind.signed, IntKind.bits] using h
  exact Lib.hid hx

theorem Num.small_pos (n : Nat) : 1 ≤ (smallB n).size := Num.enc_length_pos 9 _
theorem Num.small_mono (a b : Nat) (h : a ≤ b) : (smallB a).size ≤ (smallB b).size := Num.enc_mono 9 a b h
theorem Num.wideB_size (n : Nat) : (wideB n).size = 8 := Num.le_length _ _

end Go.Proofs.YtokofifecdpmfaaGreatDoor
