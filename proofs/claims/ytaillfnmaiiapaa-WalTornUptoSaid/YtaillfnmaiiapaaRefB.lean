/-
  What the functions of the reference alluviumref01 come to: Of, On, Tail, Good.
-/
import Derived.Test.YtaillfnmaiiapaaCrcC
import Derived.Test.YtaillfnmaiiapaaNumO
import Derived.Deep.DeepMust
namespace Go.Proofs.Ytaillfnmaiiapaa
open Go.RowKit

theorem Crc.fourL_take (c k : Nat) (hc : c < 4294967296) (h : k < 4) : (fourL c).take (k + 1) = (fourL c).take k ++ [((c / 256 ^ k : Nat) : Int) % 256] := by
  unfold fourL
  obtain rfl | rfl | rfl | rfl : k = 0 ∨ k = 1 ∨ k = 2 ∨ k = 3 := by omega
  all_goals simp only [List.take, List.nil_append, List.cons_append, List.cons.injEq, true_and, and_true, Nat.reducePow, Nat.div_one]
  all_goals omega


end Go.Proofs.Ytaillfnmaiiapaa
