/-
  LabelOnly: the walk of the law.
-/
import Derived.Test.YtieoncjdhileoaaLaP
namespace Go.Proofs.Ytieoncjdhileoaa
open Go.RowKit

set_option maxRecDepth 100000 in
set_option maxHeartbeats 2000000 in
theorem labelOnly_walk (w : World) (gm : Int) (hgm : w.cell? ⟨0, 0, none⟩ = some (.int .i64 gm)) (s : ByteArray) (_hs : s.size ≤ maxLen) :
    Calls Try.prog 7 #[.string s] w fun e w' => e = .returned (.bool true) ∧ Below w.heap.size w w' := by
  have hm2 : ∀ W, Below w.heap.size w W → W.cell? ⟨0, 0, none⟩ = some (.int .i64 gm) := fun W hW => (hW.cell (block_lt_of_cell hgm)).trans hgm
  have HM := Lib.hid hm2; clear hm2
  have B0 := Lib.hid (Below.refl w.heap.size w)
  have e1 : (((La.err true : Nat) : Int) == 0) = true := by decide
  by_cases hlen : s.size ≤ 300
  · have d1 : decide ((300 : Int) < (s.size : Int)) = false := by simp; omega
    have hq : (s.toList == s.toList) = true := by simp
    go_enter Try.func7, Try.ntmps7
    go_wp2_with fail
    refine (works_any _ gm hgm).mono ?_; rintro e w1 ⟨rfl, hb1⟩
    have B1 := Lib.hid (below_step B0.out hb1); clear hb1 B0
    go_wp2_with fail
    refine (Of_any s (by unfold maxLen; omega) w1).mono ?_
    rintro e w2 (⟨L, A, c, hL, rfl, hAn, hlc, hrow, hb2⟩ | ⟨hN, rfl, hb2⟩)
    · have B2 := Lib.hid (below_step B1.out hb2); clear hb2 B1
      obtain ⟨hr1, hk1⟩ := La.of_key hL
      obtain ⟨hL6, hLs⟩ := La.right_sizes L hr1
      have hcs1 := fun W (hW : LabRow W A L.length (La.at_ L)) => Check_any A L.length c (by unfold maxLen; omega) (La.at_ L) (fun i hi => by have := hLs i hi; exact ⟨by unfold maxLen; omega, by unfold maxLen; omega⟩) W hW
      rw [show La.right (La.at_ L) L.length = true from hr1] at hcs1
      have hks1 := fun W (hW : LabRow W A L.length (La.at_ L)) => Key_any A L.length c (by omega) (La.at_ L) hLs W hW
      rw [hk1] at hks1
      have HCS1 := Lib.hid hcs1; have HKS1 := Lib.hid hks1; clear hcs1 hks1 hr1 hk1 hLs hL hAn hlc
      have Ra2 := Lib.hid hrow; clear hrow
      obtain ⟨ln, hln⟩ : ∃ ln, L.length = ln := ⟨_, rfl⟩
      generalize La.at_ L = fL at *
      rw [hln] at HCS1 HKS1 Ra2 hL6 ⊢; clear hln
      go_wp2_with fail
      refine (Read_any s (by omega) w2 gm (HM.out _ B2.out)).mono ?_
      rintro e w3 (⟨M, A2, c2, hM, rfl, hAn2, hlc2, hrow2, hb3⟩ | ⟨hN2, rfl, hb3⟩)
      · have B3 := Lib.hid (below_step B2.out hb3); clear B2
        have Ra3 := Lib.hid (Ra2.out.later hb3); clear Ra2
        clear hb3
        obtain ⟨hr2, hk2⟩ := La.read_key hM
        obtain ⟨hM6, hMs⟩ := La.right_sizes M hr2
        have Rb3 := Lib.hid hrow2; clear hrow2
        have hcs2 := fun W (hW : LabRow W A2 M.length (La.at_ M)) => Check_any A2 M.length c2 (by unfold maxLen; omega) (La.at_ M) (fun i hi => by have := hMs i hi; exact ⟨by unfold maxLen; omega, by unfold maxLen; omega⟩) W hW
        rw [show La.right (La.at_ M) M.length = true from hr2] at hcs2
        have hks2 := fun W (hW : LabRow W A2 M.length (La.at_ M)) => Show_any A2 M.length c2 (by omega) (La.at_ M) hMs W hW
        rw [hk2] at hks2
        have HCS2 := Lib.hid hcs2; have HKS2 := Lib.hid hks2; clear hcs2 hks2 hr2 hk2 hMs hM hAn2 hlc2
        obtain ⟨mn, hmn⟩ : ∃ mn, M.length = mn := ⟨_, rfl⟩
        generalize La.at_ M = fM at *
        rw [hmn] at HCS2 HKS2 Rb3 hM6 ⊢; clear hmn
        go_wp2_with fail
        refine (HKS1.out _ Ra3.out).mono ?_; rintro e w4 ⟨rfl, hb4⟩
        have B4 := Lib.hid (below_step B3.out hb4); have Ra4 := Lib.hid (Ra3.out.later hb4); have Rb4 := Lib.hid (Rb3.out.later hb4); clear hb4 B3 Ra3 Rb3
        go_wp2_with fail
        refine (HCS1.out _ Ra4.out).mono ?_; rintro e w5 ⟨rfl, hb5⟩
        have B5 := Lib.hid (below_step B4.out hb5); have Ra5 := Lib.hid (Ra4.out.later hb5); have Rb5 := Lib.hid (Rb4.out.later hb5); clear hb5 B4 Ra4 Rb4
        go_wp2_with fail
        refine (HKS2.out _ Rb5.out).mono ?_; rintro e w6 ⟨rfl, hb6⟩
        have B6 := Lib.hid (below_step B5.out hb6); have Ra6 := Lib.hid (Ra5.out.later hb6); have Rb6 := Lib.hid (Rb5.out.later hb6); clear hb6 B5 Ra5 Rb5
        go_wp2_with fail
        refine (HCS2.out _ Rb6.out).mono ?_; rintro e w7 ⟨rfl, hb7⟩
        have B7 := Lib.hid (below_step B6.out hb7); have Ra7 := Lib.hid (Ra6.out.later hb7); have Rb7 := Lib.hid (Rb6.out.later hb7); clear hb7 B6 Ra6 Rb6
        go_wp2_with fail
        go_ret
        exact ⟨rfl, B7.out⟩
      · have B3 := Lib.hid (below_step B2.out hb3); clear B2
        have Ra3 := Lib.hid (Ra2.out.later hb3); clear Ra2
        clear hb3
        go_wp2_with fail
        refine (HKS1.out _ Ra3.out).mono ?_; rintro e w4 ⟨rfl, hb4⟩
        have B4 := Lib.hid (below_step B3.out hb4); have Ra4 := Lib.hid (Ra3.out.later hb4); clear hb4 B3 Ra3
        go_wp2_with fail
        refine (HCS1.out _ Ra4.out).mono ?_; rintro e w5 ⟨rfl, hb5⟩
        have B5 := Lib.hid (below_step B4.out hb5); have Ra5 := Lib.hid (Ra4.out.later hb5); clear hb5 B4 Ra4
        go_wp2_with fail
        go_ret
        exact ⟨rfl, B5.out⟩
    · have B2 := Lib.hid (below_step B1.out hb2); clear hb2 B1
      go_wp2_with fail
      refine (Read_any s (by omega) w2 gm (HM.out _ B2.out)).mono ?_
      rintro e w3 (⟨M, A2, c2, hM, rfl, hAn2, hlc2, hrow2, hb3⟩ | ⟨hN2, rfl, hb3⟩)
      · have B3 := Lib.hid (below_step B2.out hb3); clear B2
        clear hb3
        obtain ⟨hr2, hk2⟩ := La.read_key hM
        obtain ⟨hM6, hMs⟩ := La.right_sizes M hr2
        have Rb3 := Lib.hid hrow2; clear hrow2
        have hcs2 := fun W (hW : LabRow W A2 M.length (La.at_ M)) => Check_any A2 M.length c2 (by unfold maxLen; omega) (La.at_ M) (fun i hi => by have := hMs i hi; exact ⟨by unfold maxLen; omega, by unfold maxLen; omega⟩) W hW
        rw [show La.right (La.at_ M) M.length = true from hr2] at hcs2
        have hks2 := fun W (hW : LabRow W A2 M.length (La.at_ M)) => Show_any A2 M.length c2 (by omega) (La.at_ M) hMs W hW
        rw [hk2] at hks2
        have HCS2 := Lib.hid hcs2; have HKS2 := Lib.hid hks2; clear hcs2 hks2 hr2 hk2 hMs hM hAn2 hlc2
        obtain ⟨mn, hmn⟩ : ∃ mn, M.length = mn := ⟨_, rfl⟩
        generalize La.at_ M = fM at *
        rw [hmn] at HCS2 HKS2 Rb3 hM6 ⊢; clear hmn
        go_wp2_with fail
        refine (HKS2.out _ Rb3.out).mono ?_; rintro e w4 ⟨rfl, hb4⟩
        have B4 := Lib.hid (below_step B3.out hb4); have Rb4 := Lib.hid (Rb3.out.later hb4); clear hb4 B3 Rb3
        go_wp2_with fail
        refine (HCS2.out _ Rb4.out).mono ?_; rintro e w5 ⟨rfl, hb5⟩
        have B5 := Lib.hid (below_step B4.out hb5); have Rb5 := Lib.hid (Rb4.out.later hb5); clear hb5 B4 Rb4
        go_wp2_with fail
        go_ret
        exact ⟨rfl, B5.out⟩
      · have B3 := Lib.hid (below_step B2.out hb3); clear B2
        clear hb3
        go_wp2_with fail
        go_ret
        exact ⟨rfl, B3.out⟩
  · have d1 : decide ((300 : Int) < (s.size : Int)) = true := by simp; omega
    go_enter Try.func7, Try.ntmps7
    go_wp2_with fail
    refine (works_any _ gm hgm).mono ?_; rintro e w1 ⟨rfl, hb1⟩
    have B1 := Lib.hid (below_step B0.out hb1); clear hb1 B0
    go_wp2_with fail
    go_ret
    exact ⟨rfl, B1.out⟩
end Go.Proofs.Ytieoncjdhileoaa
