/-
  NumOnly: the four cases together, given what works comes to.
-/
import Derived.Test.YtkknagfeceljdaaNumY1
import Derived.Test.YtkknagfeceljdaaNumY2
import Derived.Test.YtkknagfeceljdaaNumY3
import Derived.Test.YtkknagfeceljdaaNumY4
namespace Go.Proofs.Ytkknagfeceljdaa
open Go.RowKit

set_option maxHeartbeats 400000 in
theorem numOnly_walk0 (hW : WorksOk) (w : World) (s : ByteArray) (_hs : s.size ≤ maxLen) (k : Int) (hk : (Lit.int .i64 k).wf = true) :
    Calls Try.prog 6 #[.string s, .int .i64 k] w fun e w' => e = .returned (.bool true) ∧ Below w.heap.size w w' := by
  by_cases hl : s.size ≤ 300
  · cases hA : (!(Num.decp 0 0 s.data.toList).2.2) <;> cases hB : (!decide (8 ≤ s.size))
    · exact numOnly_case4 hW w s hl k hk hA hB
    · exact numOnly_case3 hW w s hl k hk hA hB
    · exact numOnly_case2 hW w s hl k hk hA hB
    · exact numOnly_case1 hW w s hl k hk hA hB
  · have hd : decide ((300 : Int) < (s.size : Int)) = true := by simp; omega
    go_enter Try.func6, Try.ntmps6
    have HB0 := Lib.hid (Below.refl w.heap.size w)
    go_wp2_with fail
    refine (hW _).mono ?_; rintro e w1 ⟨rfl, hb1⟩; have HB1 := Lib.hid (below_step HB0.out hb1); clear hb1 HB0
    go_wp2_with fail
    go_ret
    exact ⟨rfl, HB1.out⟩
end Go.Proofs.Ytkknagfeceljdaa
