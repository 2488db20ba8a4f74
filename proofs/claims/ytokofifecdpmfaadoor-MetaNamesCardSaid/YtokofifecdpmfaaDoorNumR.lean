/-
  What the functions of the reference alluviumref03 come to: Small, Wide, Text, Zig, Zag.
-/
import Derived.Test.YtokofifecdpmfaaDoorNumG
namespace Go.Proofs.YtokofifecdpmfaaDoor
open Go.RowKit

theorem Tryd.info5 : (Tryd.prog.info? 5).map (fun i => (i.zero, i.size, i.bytes)) = some (some (.int .u8 0), 1, 1) := by kernel_rfl

theorem Num.wrap_div128 (m : Nat) (h : m < 18446744073709551616) : IntKind.u64.wrap ((m : Int) / 128) = (m : Int) / 128 := by
  rw [IntKind.wrap_u64]; omega
theorem Num.wrap_div256 (m : Nat) (h : m < 18446744073709551616) : IntKind.u64.wrap ((m : Int) / 256) = (m : Int) / 256 := by
  rw [IntKind.wrap_u64]; omega

theorem Num.small_size (n : Nat) : (smallB n).size ≤ 10 := Num.enc_length_le 9 _

end Go.Proofs.YtokofifecdpmfaaDoor
