/-
  What Lead and Trail of package bits come to.
-/
import Derived.Test.YtfgcgjogaaofdaaGreatDoorCom
import Derived.Test.YtfgcgjogaaofdaaGreatDoorShelf
import Derived.Test.YtfgcgjogaaofdaaGreatDoorShelfZ
namespace Go.Proofs.YtfgcgjogaaofdaaGreatDoor
open Go.RowKit

theorem Lead_any (v : Nat) (hv : v < 18446744073709551616) (w : World) : Calls Tryz.prog 97 #[.int .u64 v] w fun e w' => e = .returned (.int .i64 (64 - (Lib.bitLen v : Int))) ∧ w' = w := by
  have hc := fun W => Tryz.bits_LeadingZeros64 v W (by omega) (by omega)
  have HC := Lib.hid hc; clear hc
  go_enter Tryz.func97, Tryz.ntmps97
  go_wp2_with fail
  refine (HC.out _).mono ?_; rintro e w' ⟨rfl, rfl⟩
  go_wp2_with fail
  go_ret
  exact ⟨rfl, rfl⟩

/-- the table that Trail reads -/
def TabOk (w : World) : Prop := TabAt 1 Lib.deBruijn64tab w
theorem Zeros_any (x : Nat) (hx : x < 18446744073709551616) (w : World) (hT : TabOk w) : Calls Tryz.prog 104 #[.int .u64 x] w fun e w' => e = .returned (.int .i64 (Lib.ctz 64 x)) ∧ w' = w :=
  Any7.bits_TrailingZeros64 Tryz.lays7n29 x hx w (fun _ => hT)
theorem Trail_any (v : Nat) (hv : v < 18446744073709551616) (w : World) (hT : TabOk w) : Calls Tryz.prog 98 #[.int .u64 v] w fun e w' => e = .returned (.int .i64 (Lib.ctz 64 v)) ∧ w' = w := by
  have hc := Zeros_any v hv w hT
  have HC := Lib.hid hc; clear hc hT hv
  go_enter Tryz.func98, Tryz.ntmps98
  go_wp2_with fail
  refine HC.out.mono ?_; rintro e w' ⟨rfl, rfl⟩
  go_wp2_with fail
  go_ret
  exact ⟨rfl, rfl⟩
end Go.Proofs.YtfgcgjogaaofdaaGreatDoor
