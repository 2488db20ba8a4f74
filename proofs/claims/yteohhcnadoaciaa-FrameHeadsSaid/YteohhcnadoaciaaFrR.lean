/-
  FrameHeads: the walk of the law.
-/
import Derived.Test.YteohhcnadoaciaaFrP
namespace Go.Proofs.Yteohhcnadoaciaa
open Go.RowKit

set_option maxRecDepth 100000 in
set_option maxHeartbeats 1000000 in
theorem frameHeads_walk (w : World) (magic : ByteArray) (_hm : magic.size ≤ maxLen) (g : Int) (_hg : (Lit.int .i64 g).wf = true) (f : Int) (_hf : (Lit.int .i64 f).wf = true) (s : ByteArray) (hs : s.size ≤ maxLen) :
    Calls Try.prog 3 #[.string magic, .int .i64 g, .int .i64 f, .string s] w fun e w' => e = .returned (.bool true) ∧ Below w.heap.size w w' := by
  by_cases hl : magic.size ≤ 400 ∧ s.size ≤ 400
  · obtain ⟨hl1, hl2⟩ := hl
    have d1 : decide ((400 : Int) < (magic.size : Int)) = false := by simp; omega
    have d2 : decide ((400 : Int) < (s.size : Int)) = false := by simp; omega
    have hh := Fr.head_size magic g f
    have hsum : ¬ 9223372036854775807 < (Fr.head magic g f).size + s.size := by omega
    have hO1 := Open_any s hs magic (by omega)
    have hR1 := rOpen_any s hs magic (by omega)
    have hH := Head_any magic (by omega) g f
    have hRH := rHead_any magic (by omega) g f
    have hO2 := Open_any (Fr.head magic g f ++ s) (by unfold maxLen; rw [ByteArray.size_append]; omega) magic (by omega)
    have hR2 := rOpen_any (Fr.head magic g f ++ s) (by unfold maxLen; rw [ByteArray.size_append]; omega) magic (by omega)
    unfold Four at hO1 hR1 hO2 hR2
    generalize (Fr.opened s magic).1 = a1 at *
    generalize (Fr.opened s magic).2.1 = a2 at *
    generalize (Fr.opened s magic).2.2.1 = a3 at *
    generalize (Fr.opened s magic).2.2.2 = a4 at *
    generalize (Fr.opened (Fr.head magic g f ++ s) magic).1 = c1 at *
    generalize (Fr.opened (Fr.head magic g f ++ s) magic).2.1 = c2 at *
    generalize (Fr.opened (Fr.head magic g f ++ s) magic).2.2.1 = c3 at *
    generalize (Fr.opened (Fr.head magic g f ++ s) magic).2.2.2 = c4 at *
    generalize Fr.head magic g f = h at *
    have H1 := Lib.hid hO1; have H2 := Lib.hid hR1; have H3 := Lib.hid hH; have H4 := Lib.hid hRH; have H5 := Lib.hid hO2; have H6 := Lib.hid hR2; have HH := Lib.hid hh
    clear hO1 hR1 hH hRH hO2 hR2 hh hl1 hl2
    go_enter Try.func3, Try.ntmps3
    go_wp2_with fail
    refine (works_any _).mono ?_; rintro e w1 ⟨rfl, hb1⟩; have HB1 := Lib.hid hb1; clear hb1
    go_wp2_with fail
    refine (H1.out _).mono ?_; rintro e w2 ⟨rfl, hb2⟩; have HB2 := Lib.hid (below_step HB1.out hb2); clear hb2
    go_wp2_with fail
    refine (H2.out _).mono ?_; rintro e w3 ⟨rfl, hb3⟩; have HB3 := Lib.hid (below_step HB2.out hb3); clear hb3
    go_wp2_with fail
    refine (H3.out _).mono ?_; rintro e w4 ⟨rfl, hb4⟩; have HB4 := Lib.hid (below_step HB3.out hb4); clear hb4
    go_wp2_with fail
    refine (H5.out _).mono ?_; rintro e w5 ⟨rfl, hb5⟩; have HB5 := Lib.hid (below_step HB4.out hb5); clear hb5
    go_wp2_with fail
    refine (H4.out _).mono ?_; rintro e w6 ⟨rfl, hb6⟩; have HB6 := Lib.hid (below_step HB5.out hb6); clear hb6
    go_wp2_with fail
    refine (H6.out _).mono ?_; rintro e w7 ⟨rfl, hb7⟩; have HB7 := Lib.hid (below_step HB6.out hb7); clear hb7
    go_wp2_with fail
    refine (H3.out _).mono ?_; rintro e w8 ⟨rfl, hb8⟩; have HB8 := Lib.hid (below_step HB7.out hb8); clear hb8
    go_wp2_with fail
    refine (H4.out _).mono ?_; rintro e w9 ⟨rfl, hb9⟩; have HB9 := Lib.hid (below_step HB8.out hb9); clear hb9
    go_wp2_with fail
    go_ret
    exact ⟨rfl, HB9.out⟩
  · have hd : decide ((400 : Int) < (magic.size : Int)) = true ∨ (decide ((400 : Int) < (magic.size : Int)) = false ∧ decide ((400 : Int) < (s.size : Int)) = true) := by
      by_cases h : magic.size ≤ 400
      · right; simp at hl; simp; omega
      · left; simp; omega
    clear hl
    rcases hd with d1 | ⟨d1, d2⟩
    all_goals
      go_enter Try.func3, Try.ntmps3
      go_wp2_with fail
      refine (works_any _).mono ?_; rintro e w1 ⟨rfl, hb1⟩; have HB1 := Lib.hid hb1; clear hb1
      go_wp2_with fail
      go_ret
      exact ⟨rfl, HB1.out⟩
end Go.Proofs.Yteohhcnadoaciaa
