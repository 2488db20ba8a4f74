/-
  Acts in a world; what few of the laws comes to.
-/
import Derived.Test.YtgpmomjdjakklaaSfX
import Derived.BigQuiet
namespace Go.Proofs.Ytgpmomjdjakklaa
open Go.RowKit
theorem below_drewN {B : Nat} {a w : World} (h : Below B a w) (n : Nat) : Below B a (w.drewN n) := h.trans ⟨rfl, rfl, rfl, Nat.le_refl _, fun _ _ => rfl⟩
/-- a row of texts -/
def tx (l : List (List UInt8)) (i _ : Nat) : Value := .string (bs (l.getD i []))
theorem bs_inj {a b : List UInt8} (h : bs a = bs b) : a = b := by
  unfold bs at h
  injection h with h
  simpa using h
end Go.Proofs.Ytgpmomjdjakklaa
