/-
  What All of the reference comes to.
-/
import Derived.Test.YtopdhcbhhkajpaaDoorStE
import Derived.Test.YtopdhcbhhkajpaaDoorStH
namespace Go.Proofs.YtopdhcbhhkajpaaDoor
open Go.RowKit

set_option maxRecDepth 100000 in
theorem rStAll_any (w : World) (A : Option Addr) (len cap : Nat) (f : Nat → Int) (hlen : len ≤ 100) (hA : IntRow w A len .i64 f) :
    Calls Tryd.prog 28 #[.slice A len cap] w fun e w' => e = .returned (.string (Bit.text (St.bits f len))) ∧ Below w.heap.size w w' := by
  have hc := rStBits_any w A len cap f (by omega) hA
  have hB := St.bits_length f len
  have HC := Lib.hid hc; clear hc hA
  go_enter Tryd.func28, Tryd.ntmps28
  go_wp2_with fail
  refine HC.out.mono ?_; rintro e w1 ⟨rfl, hb1⟩
  have HB1 := Lib.hid hb1; clear hb1
  go_wp2_with fail
  refine (rBytes_any _ (by omega) _).mono ?_; rintro e w2 ⟨rfl, hb2⟩
  have HB2 := Lib.hid (HB1.out.trans (hb2.mono HB1.out.size)); clear hb2
  go_wp2_with fail
  go_ret
  exact ⟨rfl, HB2.out⟩
end Go.Proofs.YtopdhcbhhkajpaaDoor
