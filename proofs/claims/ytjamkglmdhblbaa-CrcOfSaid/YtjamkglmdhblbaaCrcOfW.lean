/-
  CrcOf: the walk of the law.
-/
import Derived.Test.YtjamkglmdhblbaaRefC
namespace Go.Proofs.Ytjamkglmdhblbaa
open Go.RowKit

set_option maxHeartbeats 400000 in
theorem crcOf_walk (w : World) (b : ByteArray) (hb : b.size ≤ maxLen) (c : Int) (hc : (Lit.int .u32 c).wf = true) :
    Calls Try.prog 3 #[.string b, .int .u32 c] w fun e w' => e = .returned (.bool true) ∧ Below w.heap.size w w' := by
  obtain ⟨n, rfl, hn⟩ := u32_nat c hc
  by_cases hlen : b.size ≤ 600
  · go_enter Try.func3, Try.ntmps3
    go_wp2_with fail
    refine (works_any _).mono ?_; rintro e w1 ⟨rfl, hb1⟩; have HB1 := Lib.hid hb1; clear hb1
    go_wp2_with fail
    refine (Good_any b hb _).mono ?_; rintro e w2 ⟨rfl, hb2⟩; have HB2 := Lib.hid (below_step HB1.out hb2); clear hb2 HB1
    go_wp2_with fail
    refine (rGood_any b hb _).mono ?_; rintro e w3 ⟨rfl, hb3⟩; have HB3 := Lib.hid (below_step HB2.out hb3); clear hb3 HB2
    go_wp2_with fail
    refine (Of_any b hb _).mono ?_; rintro e w4 ⟨rfl, hb4⟩; have HB4 := Lib.hid (below_step HB3.out hb4); clear hb4 HB3
    go_wp2_with fail
    refine (rOf_any b hb _).mono ?_; rintro e w5 ⟨rfl, rfl⟩
    go_wp2_with fail
    refine (On_any n hn b hb _).mono ?_; rintro e w6 ⟨rfl, hb6⟩; have HB6 := Lib.hid (below_step HB4.out hb6); clear hb6 HB4
    go_wp2_with fail
    refine (rOn_any n hn b hb _).mono ?_; rintro e w7 ⟨rfl, rfl⟩
    go_wp2_with fail
    refine (Tail_any b hb _).mono ?_; rintro e w8 ⟨rfl, hb8⟩; have HB8 := Lib.hid (below_step HB6.out hb8); clear hb8 HB6
    go_wp2_with fail
    refine (rTail_any b hb _).mono ?_; rintro e w9 ⟨rfl, hb9⟩; have HB9 := Lib.hid (below_step HB8.out hb9); clear hb9 HB8
    go_wp2_with fail
    go_ret
    exact ⟨by simp, HB9.out⟩
  · go_enter Try.func3, Try.ntmps3
    go_wp2_with fail
    refine (works_any _).mono ?_; rintro e w1 ⟨rfl, hb1⟩; have HB1 := Lib.hid hb1; clear hb1
    go_wp2_with fail
    go_ret
    exact ⟨rfl, HB1.out⟩
end Go.Proofs.Ytjamkglmdhblbaa
