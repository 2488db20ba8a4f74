/-
  What Lead and Trail of package bits come to.
-/
import Derived.Test.YtfgcgjogaaofdaaDoorCom
import Derived.Test.YtfgcgjogaaofdaaDoorShelf
import Derived.Test.YtfgcgjogaaofdaaDoorShelfZ
namespace Go.Proofs.YtfgcgjogaaofdaaDoor
open Go.RowKit

theorem Lead_any (v : Nat) (hv : v < 18446744073709551616) (w : World) : Calls Tryd.prog 79 #[.int .u64 v] w fun e w' => e = .returned (.int .i64 (64 - (Lib.bitLen v : Int))) ∧ w' = w := by
  have hc := fun W => Tryd.bits_LeadingZeros64 v W (by omega) (by omega)
  have HC := Lib.hid hc; clear hc
  go_enter Tryd.func79, Tryd.ntmps79
  go_wp2_with fail
  refine (HC.out _).mono ?_; rintro e w' ⟨rfl, rfl⟩
  go_wp2_with fail
  go_ret
  exact ⟨rfl, rfl⟩

/-- the table that Trail reads -/
def TabOk (w : World) : Prop := TabAt 1 Lib.deBruijn64tab w
theorem Zeros_any (x : Nat) (hx : x < 18446744073709551616) (w : World) (hT : TabOk w) : Calls Tryd.prog 86 #[.int .u64 x] w fun e w' => e = .returned (.int .i64 (Lib.ctz 64 x)) ∧ w' = w :=
  Any7.bits_TrailingZeros64 Tryd.lays7n29 x hx w (fun _ => hT)
theorem Trail_any (v : Nat) (hv : v < 18446744073709551616) (w : World) (hT : TabOk w) : Calls Tryd.prog 80 #[.int .u64 v] w fun e w' => e = .returned (.int .i64 (Lib.ctz 64 v)) ∧ w' = w := by
  have hc := Zeros_any v hv w hT
  have HC := Lib.hid hc; clear hc hT hv
  go_enter Tryd.func80, Tryd.ntmps80
  go_wp2_with fail
  refine HC.out.mono ?_; rintro e w' ⟨rfl, rfl⟩
  go_wp2_with fail
  go_ret
  exact ⟨rfl, rfl⟩
end Go.Proofs.YtfgcgjogaaofdaaDoor
