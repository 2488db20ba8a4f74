/-
  LabelPairs: the walk of the law.
-/
import Derived.Test.YtieoncjdhileoaaLaT
namespace Go.Proofs.Ytieoncjdhileoaa
open Go.RowKit

set_option maxRecDepth 100000 in
set_option maxHeartbeats 2000000 in
theorem labelPairs_walk (w : World) (gm : Int) (hgm : w.cell? ⟨0, 0, none⟩ = some (.int .i64 gm)) (A0 : Option Addr) (n0 c0 : Nat) (f0 : Nat → Lab) (hn0 : n0 ≤ maxLen) (_hz0 : ∀ i, i < n0 → (f0 i).1.size ≤ maxLen ∧ (f0 i).2.size ≤ maxLen) (hl0 : LabRow w A0 n0 f0) (_hx0 : A0 = none → n0 = 0 ∧ c0 = 0) (_hq0 : n0 ≤ c0) (A1 : Option Addr) (n1 c1 : Nat) (f1 : Nat → Lab) (hn1 : n1 ≤ maxLen) (_hz1 : ∀ i, i < n1 → (f1 i).1.size ≤ maxLen ∧ (f1 i).2.size ≤ maxLen) (hl1 : LabRow w A1 n1 f1) (_hx1 : A1 = none → n1 = 0 ∧ c1 = 0) (_hq1 : n1 ≤ c1) :
    Calls Try.prog 5 #[.slice A0 n0 c0, .slice A1 n1 c1] w fun e w' => e = .returned (.bool true) ∧ Below w.heap.size w w' := by
  have Ra0 := Lib.hid hl0; have Rb0 := Lib.hid hl1; have B0 := Lib.hid (Below.refl w.heap.size w); clear hl0 hl1
  cases hf0 : La.few f0 n0
  · go_enter Try.func5, Try.ntmps5
    go_wp2_with fail
    refine (works_any _ gm hgm).mono ?_; rintro e w1 ⟨rfl, hb1⟩
    have B1 := Lib.hid (below_step B0.out hb1); have Ra1 := Lib.hid (Ra0.out.later hb1); have Rb1 := Lib.hid (Rb0.out.later hb1); clear hb1 B0 Ra0 Rb0
    go_wp2_with fail
    refine (Few_any A0 n0 c0 hn0 f0 _ Ra1.out).mono ?_; rintro e w2 ⟨rfl, hb2⟩
    have B2 := Lib.hid (below_step B1.out hb2); have Ra2 := Lib.hid (Ra1.out.later hb2); have Rb2 := Lib.hid (Rb1.out.later hb2); clear hb2 B1 Ra1 Rb1
    rw [hf0]
    go_wp2_with fail
    go_ret
    exact ⟨rfl, B2.out⟩
  cases hf1 : La.few f1 n1
  · go_enter Try.func5, Try.ntmps5
    go_wp2_with fail
    refine (works_any _ gm hgm).mono ?_; rintro e w1 ⟨rfl, hb1⟩
    have B1 := Lib.hid (below_step B0.out hb1); have Ra1 := Lib.hid (Ra0.out.later hb1); have Rb1 := Lib.hid (Rb0.out.later hb1); clear hb1 B0 Ra0 Rb0
    go_wp2_with fail
    refine (Few_any A0 n0 c0 hn0 f0 _ Ra1.out).mono ?_; rintro e w2 ⟨rfl, hb2⟩
    have B2 := Lib.hid (below_step B1.out hb2); have Ra2 := Lib.hid (Ra1.out.later hb2); have Rb2 := Lib.hid (Rb1.out.later hb2); clear hb2 B1 Ra1 Rb1
    rw [hf0]
    go_wp2_with fail
    refine (Few_any A1 n1 c1 hn1 f1 _ Rb2.out).mono ?_; rintro e w3 ⟨rfl, hb3⟩
    have B3 := Lib.hid (below_step B2.out hb3); have Ra3 := Lib.hid (Ra2.out.later hb3); have Rb3 := Lib.hid (Rb2.out.later hb3); clear hb3 B2 Ra2 Rb2
    rw [hf1]
    go_wp2_with fail
    go_ret
    exact ⟨rfl, B3.out⟩
  obtain ⟨hF0, hS0⟩ := La.few_yes hf0; obtain ⟨hF1, hS1⟩ := La.few_yes hf1
  have H0 := Lib.hid hf0; have H1 := Lib.hid hf1; clear hf0 hf1
  have hk0 : (La.keyB f0 n0).size ≤ maxLen := by have := La.key_length f0 n0 hS0; unfold La.keyB maxLen; rw [La.size_mk]; omega
  have hk1 : (La.keyB f1 n1).size ≤ maxLen := by have := La.key_length f1 n1 hS1; unfold La.keyB maxLen; rw [La.size_mk]; omega
  have hK0 := fun W (hW : LabRow W A0 n0 f0) => rKey_any A0 n0 c0 hF0 f0 hS0 W hW
  have hK1 := fun W (hW : LabRow W A1 n1 f1) => rKey_any A1 n1 c1 hF1 f1 hS1 W hW
  have hAH := fun W => rAhead_any (La.keyB f0 n0) (La.keyB f1 n1) hk0 hk1 W
  have hRS := fun W (hW : LabRow W A0 n0 f0) (hV : LabRow W A1 n1 f1) => rSame_any A0 A1 n0 n1 c0 c1 hn0 f0 f1 W hW hV
  have hLS := fun W (hW : LabRow W A0 n0 f0) (hV : LabRow W A1 n1 f1) => Less_any A0 A1 n0 n1 c0 c1 (by omega) (by omega) f0 f1 hS0 hS1 W hW hV
  have hSM := fun W (hW : LabRow W A0 n0 f0) (hV : LabRow W A1 n1 f1) => Same_any A0 A1 n0 n1 c0 c1 hn0 f0 f1 W hW hV
  clear hk0 hk1 hS0 hS1
  generalize La.keyB f0 n0 = K0 at *
  generalize La.keyB f1 n1 = K1 at *
  generalize La.less K0 K1 = ab at *
  generalize (decide (n0 = n1) && La.same f0 f1 n0) = sm at *
  have HK0 := Lib.hid hK0; have HK1 := Lib.hid hK1; have HAH := Lib.hid hAH; have HRS := Lib.hid hRS; have HLS := Lib.hid hLS; have HSM := Lib.hid hSM
  clear hK0 hK1 hAH hRS hLS hSM
  cases ab <;> cases sm
  all_goals
    go_enter Try.func5, Try.ntmps5
    go_wp2_with fail
    refine (works_any _ gm hgm).mono ?_; rintro e w1 ⟨rfl, hb1⟩
    have B1 := Lib.hid (below_step B0.out hb1); have Ra1 := Lib.hid (Ra0.out.later hb1); have Rb1 := Lib.hid (Rb0.out.later hb1); clear hb1 B0 Ra0 Rb0
    go_wp2_with fail
    refine (Few_any A0 n0 c0 hn0 f0 _ Ra1.out).mono ?_; rintro e w2 ⟨rfl, hb2⟩
    have B2 := Lib.hid (below_step B1.out hb2); have Ra2 := Lib.hid (Ra1.out.later hb2); have Rb2 := Lib.hid (Rb1.out.later hb2); clear hb2 B1 Ra1 Rb1
    rw [H0.out]
    go_wp2_with fail
    refine (Few_any A1 n1 c1 hn1 f1 _ Rb2.out).mono ?_; rintro e w3 ⟨rfl, hb3⟩
    have B3 := Lib.hid (below_step B2.out hb3); have Ra3 := Lib.hid (Ra2.out.later hb3); have Rb3 := Lib.hid (Rb2.out.later hb3); clear hb3 B2 Ra2 Rb2
    rw [H1.out]
    go_wp2_with fail
    refine (HK0.out _ Ra3.out).mono ?_; rintro e w4 ⟨rfl, hb4⟩
    have B4 := Lib.hid (below_step B3.out hb4); have Ra4 := Lib.hid (Ra3.out.later hb4); have Rb4 := Lib.hid (Rb3.out.later hb4); clear hb4 B3 Ra3 Rb3
    go_wp2_with fail
    refine (HK1.out _ Rb4.out).mono ?_; rintro e w5 ⟨rfl, hb5⟩
    have B5 := Lib.hid (below_step B4.out hb5); have Ra5 := Lib.hid (Ra4.out.later hb5); have Rb5 := Lib.hid (Rb4.out.later hb5); clear hb5 B4 Ra4 Rb4
    go_wp2_with fail
    refine (HAH.out _).mono ?_; rintro e w6 ⟨rfl, hb6⟩
    have B6 := Lib.hid (below_step B5.out hb6); have Ra6 := Lib.hid (Ra5.out.later hb6); have Rb6 := Lib.hid (Rb5.out.later hb6); clear hb6 B5 Ra5 Rb5
    go_wp2_with fail
    refine (HRS.out _ Ra6.out Rb6.out).mono ?_; rintro e w7 ⟨rfl, hb7⟩
    have B7 := Lib.hid (below_step B6.out hb7); have Ra7 := Lib.hid (Ra6.out.later hb7); have Rb7 := Lib.hid (Rb6.out.later hb7); clear hb7 B6 Ra6 Rb6
    go_wp2_with fail
    refine (HLS.out _ Ra7.out Rb7.out).mono ?_; rintro e w8 ⟨rfl, hb8⟩
    have B8 := Lib.hid (below_step B7.out hb8); have Ra8 := Lib.hid (Ra7.out.later hb8); have Rb8 := Lib.hid (Rb7.out.later hb8); clear hb8 B7 Ra7 Rb7
    go_wp2_with fail
    refine (HSM.out _ Ra8.out Rb8.out).mono ?_; rintro e w9 ⟨rfl, hb9⟩
    have B9 := Lib.hid (below_step B8.out hb9); have Ra9 := Lib.hid (Ra8.out.later hb9); have Rb9 := Lib.hid (Rb8.out.later hb9); clear hb9 B8 Ra8 Rb8
    go_wp2_with fail
    go_ret
    exact ⟨rfl, B9.out⟩
end Go.Proofs.Ytieoncjdhileoaa
