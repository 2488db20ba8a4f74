/-
  FrameBack, FrameTurned: the walks of the laws.
-/
import Derived.Test.YteohhcnadoaciaaFrL
import Derived.Test.YteohhcnadoaciaaFrT
namespace Go.Proofs.Yteohhcnadoaciaa
open Go.RowKit

theorem empty_is : ByteArray.empty.toList.isEmpty = true := by rw [ByteArray.toList_eq]; rfl

set_option maxRecDepth 100000 in
set_option maxHeartbeats 1000000 in
theorem frameBack_walk (w : World) (b : ByteArray) (hb : b.size ≤ maxLen) (r : ByteArray) (hr : r.size ≤ maxLen) (s : ByteArray) (hs : s.size ≤ maxLen) (most : Int) (hm : (Lit.int .i64 most).wf = true) :
    Calls Try.prog 4 #[.string b, .string r, .string s, .int .i64 most] w fun e w' => e = .returned (.bool true) ∧ Below w.heap.size w w' := by
  by_cases hl : b.size ≤ 400 ∧ r.size ≤ 400 ∧ s.size ≤ 400
  · obtain ⟨hl1, hl2, hl3⟩ := hl
    have d1 : decide ((400 : Int) < (b.size : Int)) = false := by simp; omega
    have d2 : decide ((400 : Int) < (r.size : Int)) = false := by simp; omega
    have d3 : decide ((400 : Int) < (s.size : Int)) = false := by simp; omega
    have hpz : (Fr.put b).size ≤ 414 := by have := Fr.put_size b; have := Fr.small_le b.size; omega
    have hg1 := Get_any (Fr.put b ++ r) (by unfold maxLen; rw [ByteArray.size_append]; omega) (b.size : Int) (Lib.hid (by omega))
    rw [Fr.get_put b r _ (Int.le_refl _) (by omega)] at hg1
    have hg2 := Get_any (Fr.put b ++ r) (by unfold maxLen; rw [ByteArray.size_append]; omega) ((b.size : Int) - 1) (Lib.hid (by omega))
    rw [Fr.get_long b r _ (by omega) (by omega)] at hg2
    have hg3 := Get_any s hs most (i64_bd most hm)
    have hP := Put_any b (by omega)
    have hsum : ¬ 9223372036854775807 < (Fr.put b).size + r.size := by omega
    have hemp := empty_is
    by_cases hz : (Fr.get s most).2.2 = 0
    · have hw := Fr.get_whole s most hz
      rw [hz] at hg3
      generalize (Fr.get s most).1 = u at *
      generalize (Fr.get s most).2.1 = v at *
      obtain ⟨hw1, hw2⟩ := hw
      have hsz := congrArg ByteArray.size hw1
      rw [ByteArray.size_append] at hsz
      have huz := Fr.put_size u
      have hP2 := Put_any u (by omega)
      have hsum2 : ¬ 9223372036854775807 < (Fr.put u).size + v.size := by omega
      have d4 : decide ((u.size : Int) ≤ most) = true := by simpa using hw2
      have H1 := Lib.hid hg1; have H2 := Lib.hid hg2; have H3 := Lib.hid hg3; have HP := Lib.hid hP; have HP2 := Lib.hid hP2
      clear hg1 hg2 hg3 hP hP2 hsz huz hz hw2 hpz
      generalize Fr.put b = p at *
      generalize Fr.put u = q at *
      go_enter Try.func4, Try.ntmps4
      go_wp2_with fail
      refine (works_any _).mono ?_; rintro e w1 ⟨rfl, hb1⟩; have HB1 := Lib.hid hb1; clear hb1
      go_wp2_with fail
      refine (HP.out _).mono ?_; rintro e w2 ⟨rfl, hb2⟩; have HB2 := Lib.hid (below_step HB1.out hb2); clear hb2
      go_wp2_with fail
      refine (H1.out _).mono ?_; rintro e w3 ⟨rfl, hb3⟩; have HB3 := Lib.hid (below_step HB2.out hb3); clear hb3
      go_wp2_with fail
      refine (HP.out _).mono ?_; rintro e w4 ⟨rfl, hb4⟩; have HB4 := Lib.hid (below_step HB3.out hb4); clear hb4
      go_wp2_with fail
      refine (H2.out _).mono ?_; rintro e w5 ⟨rfl, hb5⟩; have HB5 := Lib.hid (below_step HB4.out hb5); clear hb5
      go_wp2_with fail
      refine (H3.out _).mono ?_; rintro e w6 ⟨rfl, hb6⟩; have HB6 := Lib.hid (below_step HB5.out hb6); clear hb6
      go_wp2_with fail
      refine (HP2.out _).mono ?_; rintro e w7 ⟨rfl, hb7⟩; have HB7 := Lib.hid (below_step HB6.out hb7); clear hb7
      go_wp2_with fail
      go_ret
      exact ⟨rfl, HB7.out⟩
    · have hw := Fr.get_not s most hz
      rw [hw.1, hw.2] at hg3
      generalize (Fr.get s most).2.2 = sh at *
      have n1 : ((sh : Int) != 0) = true := by rw [bne_iff_ne]; omega
      have H1 := Lib.hid hg1; have H2 := Lib.hid hg2; have H3 := Lib.hid hg3; have HP := Lib.hid hP
      clear hg1 hg2 hg3 hP hz hw hpz
      generalize Fr.put b = p at *
      go_enter Try.func4, Try.ntmps4
      go_wp2_with fail
      refine (works_any _).mono ?_; rintro e w1 ⟨rfl, hb1⟩; have HB1 := Lib.hid hb1; clear hb1
      go_wp2_with fail
      refine (HP.out _).mono ?_; rintro e w2 ⟨rfl, hb2⟩; have HB2 := Lib.hid (below_step HB1.out hb2); clear hb2
      go_wp2_with fail
      refine (H1.out _).mono ?_; rintro e w3 ⟨rfl, hb3⟩; have HB3 := Lib.hid (below_step HB2.out hb3); clear hb3
      go_wp2_with fail
      refine (HP.out _).mono ?_; rintro e w4 ⟨rfl, hb4⟩; have HB4 := Lib.hid (below_step HB3.out hb4); clear hb4
      go_wp2_with fail
      refine (H2.out _).mono ?_; rintro e w5 ⟨rfl, hb5⟩; have HB5 := Lib.hid (below_step HB4.out hb5); clear hb5
      go_wp2_with fail
      refine (H3.out _).mono ?_; rintro e w6 ⟨rfl, hb6⟩; have HB6 := Lib.hid (below_step HB5.out hb6); clear hb6
      go_wp2_with fail
      go_ret
      exact ⟨rfl, HB6.out⟩
  · have hd : decide ((400 : Int) < (b.size : Int)) = true ∨ (decide ((400 : Int) < (b.size : Int)) = false ∧ decide ((400 : Int) < (r.size : Int)) = true) ∨ (decide ((400 : Int) < (b.size : Int)) = false ∧ decide ((400 : Int) < (r.size : Int)) = false ∧ decide ((400 : Int) < (s.size : Int)) = true) := by
      by_cases h : b.size ≤ 400
      · right
        by_cases h2 : r.size ≤ 400
        · right; simp at hl; simp; omega
        · left; simp; omega
      · left; simp; omega
    clear hl
    rcases hd with d1 | ⟨d1, d2⟩ | ⟨d1, d2, d3⟩
    all_goals
      go_enter Try.func4, Try.ntmps4
      go_wp2_with fail
      refine (works_any _).mono ?_; rintro e w1 ⟨rfl, hb1⟩; have HB1 := Lib.hid hb1; clear hb1
      go_wp2_with fail
      go_ret
      exact ⟨rfl, HB1.out⟩
end Go.Proofs.Yteohhcnadoaciaa
