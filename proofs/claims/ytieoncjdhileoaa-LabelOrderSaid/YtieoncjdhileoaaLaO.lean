/-
  LabelOrder: the walk of the law.
-/
import Derived.Test.YtieoncjdhileoaaLaM
namespace Go.Proofs.Ytieoncjdhileoaa
open Go.RowKit

set_option maxRecDepth 100000 in
set_option maxHeartbeats 2000000 in
theorem labelOrder_walk (w : World) (gm : Int) (hgm : w.cell? ⟨0, 0, none⟩ = some (.int .i64 gm)) (A0 : Option Addr) (n0 c0 : Nat) (f0 : Nat → Lab) (hn0 : n0 ≤ maxLen) (_hz0 : ∀ i, i < n0 → (f0 i).1.size ≤ maxLen ∧ (f0 i).2.size ≤ maxLen) (hl0 : LabRow w A0 n0 f0) (_hx0 : A0 = none → n0 = 0 ∧ c0 = 0) (_hq0 : n0 ≤ c0) (A1 : Option Addr) (n1 c1 : Nat) (f1 : Nat → Lab) (hn1 : n1 ≤ maxLen) (_hz1 : ∀ i, i < n1 → (f1 i).1.size ≤ maxLen ∧ (f1 i).2.size ≤ maxLen) (hl1 : LabRow w A1 n1 f1) (_hx1 : A1 = none → n1 = 0 ∧ c1 = 0) (_hq1 : n1 ≤ c1) (A2 : Option Addr) (n2 c2 : Nat) (f2 : Nat → Lab) (hn2 : n2 ≤ maxLen) (_hz2 : ∀ i, i < n2 → (f2 i).1.size ≤ maxLen ∧ (f2 i).2.size ≤ maxLen) (hl2 : LabRow w A2 n2 f2) (_hx2 : A2 = none → n2 = 0 ∧ c2 = 0) (_hq2 : n2 ≤ c2) :
    Calls Try.prog 9 #[.slice A0 n0 c0, .slice A1 n1 c1, .slice A2 n2 c2] w fun e w' => e = .returned (.bool true) ∧ Below w.heap.size w w' := by
  have Ra0 := Lib.hid hl0; have Rb0 := Lib.hid hl1; have Rc0 := Lib.hid hl2; have B0 := Lib.hid (Below.refl w.heap.size w); clear hl0 hl1 hl2
  cases hf0 : La.few f0 n0
  · go_enter Try.func9, Try.ntmps9
    go_wp2_with fail
    refine (works_any _ gm hgm).mono ?_; rintro e w1 ⟨rfl, hb1⟩
    have B1 := Lib.hid (below_step B0.out hb1); have Ra1 := Lib.hid (Ra0.out.later hb1); have Rb1 := Lib.hid (Rb0.out.later hb1); have Rc1 := Lib.hid (Rc0.out.later hb1); clear hb1 B0 Ra0 Rb0 Rc0
    go_wp2_with fail
    refine (Few_any A0 n0 c0 hn0 f0 _ Ra1.out).mono ?_; rintro e w2 ⟨rfl, hb2⟩
    have B2 := Lib.hid (below_step B1.out hb2); have Ra2 := Lib.hid (Ra1.out.later hb2); have Rb2 := Lib.hid (Rb1.out.later hb2); have Rc2 := Lib.hid (Rc1.out.later hb2); clear hb2 B1 Ra1 Rb1 Rc1
    rw [hf0]
    go_wp2_with fail
    go_ret
    exact ⟨rfl, B2.out⟩
  cases hf1 : La.few f1 n1
  · go_enter Try.func9, Try.ntmps9
    go_wp2_with fail
    refine (works_any _ gm hgm).mono ?_; rintro e w1 ⟨rfl, hb1⟩
    have B1 := Lib.hid (below_step B0.out hb1); have Ra1 := Lib.hid (Ra0.out.later hb1); have Rb1 := Lib.hid (Rb0.out.later hb1); have Rc1 := Lib.hid (Rc0.out.later hb1); clear hb1 B0 Ra0 Rb0 Rc0
    go_wp2_with fail
    refine (Few_any A0 n0 c0 hn0 f0 _ Ra1.out).mono ?_; rintro e w2 ⟨rfl, hb2⟩
    have B2 := Lib.hid (below_step B1.out hb2); have Ra2 := Lib.hid (Ra1.out.later hb2); have Rb2 := Lib.hid (Rb1.out.later hb2); have Rc2 := Lib.hid (Rc1.out.later hb2); clear hb2 B1 Ra1 Rb1 Rc1
    rw [hf0]
    go_wp2_with fail
    refine (Few_any A1 n1 c1 hn1 f1 _ Rb2.out).mono ?_; rintro e w3 ⟨rfl, hb3⟩
    have B3 := Lib.hid (below_step B2.out hb3); have Ra3 := Lib.hid (Ra2.out.later hb3); have Rb3 := Lib.hid (Rb2.out.later hb3); have Rc3 := Lib.hid (Rc2.out.later hb3); clear hb3 B2 Ra2 Rb2 Rc2
    rw [hf1]
    go_wp2_with fail
    go_ret
    exact ⟨rfl, B3.out⟩
  cases hf2 : La.few f2 n2
  · go_enter Try.func9, Try.ntmps9
    go_wp2_with fail
    refine (works_any _ gm hgm).mono ?_; rintro e w1 ⟨rfl, hb1⟩
    have B1 := Lib.hid (below_step B0.out hb1); have Ra1 := Lib.hid (Ra0.out.later hb1); have Rb1 := Lib.hid (Rb0.out.later hb1); have Rc1 := Lib.hid (Rc0.out.later hb1); clear hb1 B0 Ra0 Rb0 Rc0
    go_wp2_with fail
    refine (Few_any A0 n0 c0 hn0 f0 _ Ra1.out).mono ?_; rintro e w2 ⟨rfl, hb2⟩
    have B2 := Lib.hid (below_step B1.out hb2); have Ra2 := Lib.hid (Ra1.out.later hb2); have Rb2 := Lib.hid (Rb1.out.later hb2); have Rc2 := Lib.hid (Rc1.out.later hb2); clear hb2 B1 Ra1 Rb1 Rc1
    rw [hf0]
    go_wp2_with fail
    refine (Few_any A1 n1 c1 hn1 f1 _ Rb2.out).mono ?_; rintro e w3 ⟨rfl, hb3⟩
    have B3 := Lib.hid (below_step B2.out hb3); have Ra3 := Lib.hid (Ra2.out.later hb3); have Rb3 := Lib.hid (Rb2.out.later hb3); have Rc3 := Lib.hid (Rc2.out.later hb3); clear hb3 B2 Ra2 Rb2 Rc2
    rw [hf1]
    go_wp2_with fail
    refine (Few_any A2 n2 c2 hn2 f2 _ Rc3.out).mono ?_; rintro e w4 ⟨rfl, hb4⟩
    have B4 := Lib.hid (below_step B3.out hb4); have Ra4 := Lib.hid (Ra3.out.later hb4); have Rb4 := Lib.hid (Rb3.out.later hb4); have Rc4 := Lib.hid (Rc3.out.later hb4); clear hb4 B3 Ra3 Rb3 Rc3
    rw [hf2]
    go_wp2_with fail
    go_ret
    exact ⟨rfl, B4.out⟩
  have hF0 := La.few_yes hf0; have hF1 := La.few_yes hf1; have hF2 := La.few_yes hf2
  have H0 := Lib.hid hf0; clear hf0
  have H1 := Lib.hid hf1; clear hf1
  have H2 := Lib.hid hf2; clear hf2
  have hAA := fun W (h1 : LabRow W A0 n0 f0) (h2 : LabRow W A0 n0 f0) => Less_any A0 A0 n0 n0 c0 c0 (by have := hF0.1; omega) (by have := hF0.1; omega) f0 f0 hF0.2 hF0.2 W h1 h2
  have hAB := fun W (h1 : LabRow W A0 n0 f0) (h2 : LabRow W A1 n1 f1) => Less_any A0 A1 n0 n1 c0 c1 (by have := hF0.1; omega) (by have := hF1.1; omega) f0 f1 hF0.2 hF1.2 W h1 h2
  have hBC := fun W (h1 : LabRow W A1 n1 f1) (h2 : LabRow W A2 n2 f2) => Less_any A1 A2 n1 n2 c1 c2 (by have := hF1.1; omega) (by have := hF2.1; omega) f1 f2 hF1.2 hF2.2 W h1 h2
  have hAC := fun W (h1 : LabRow W A0 n0 f0) (h2 : LabRow W A2 n2 f2) => Less_any A0 A2 n0 n2 c0 c2 (by have := hF0.1; omega) (by have := hF2.1; omega) f0 f2 hF0.2 hF2.2 W h1 h2
  have hBA := fun W (h1 : LabRow W A1 n1 f1) (h2 : LabRow W A0 n0 f0) => Less_any A1 A0 n1 n0 c1 c0 (by have := hF1.1; omega) (by have := hF0.1; omega) f1 f0 hF1.2 hF0.2 W h1 h2
  have t1 := La.less_irrefl (La.keyB f0 n0)
  have t2 : La.less (La.keyB f0 n0) (La.keyB f1 n1) = true → La.less (La.keyB f1 n1) (La.keyB f2 n2) = true → La.less (La.keyB f0 n0) (La.keyB f2 n2) = true := La.less_trans
  have t3 : La.less (La.keyB f0 n0) (La.keyB f1 n1) = true → La.less (La.keyB f1 n1) (La.keyB f0 n0) = false := La.less_asymm
  rw [t1] at hAA
  generalize La.less (La.keyB f0 n0) (La.keyB f1 n1) = ab at *
  generalize La.less (La.keyB f1 n1) (La.keyB f2 n2) = bc at *
  generalize La.less (La.keyB f0 n0) (La.keyB f2 n2) = ac at *
  generalize La.less (La.keyB f1 n1) (La.keyB f0 n0) = ba at *
  have HAA := Lib.hid hAA; have HAB := Lib.hid hAB; have HBC := Lib.hid hBC; have HAC := Lib.hid hAC; have HBA := Lib.hid hBA
  clear hAA hAB hBC hAC hBA t1 hF0 hF1 hF2
  cases ab
  · go_enter Try.func9, Try.ntmps9
    go_wp2_with fail
    refine (works_any _ gm hgm).mono ?_; rintro e w1 ⟨rfl, hb1⟩
    have B1 := Lib.hid (below_step B0.out hb1); have Ra1 := Lib.hid (Ra0.out.later hb1); have Rb1 := Lib.hid (Rb0.out.later hb1); have Rc1 := Lib.hid (Rc0.out.later hb1); clear hb1 B0 Ra0 Rb0 Rc0
    go_wp2_with fail
    refine (Few_any A0 n0 c0 hn0 f0 _ Ra1.out).mono ?_; rintro e w2 ⟨rfl, hb2⟩
    have B2 := Lib.hid (below_step B1.out hb2); have Ra2 := Lib.hid (Ra1.out.later hb2); have Rb2 := Lib.hid (Rb1.out.later hb2); have Rc2 := Lib.hid (Rc1.out.later hb2); clear hb2 B1 Ra1 Rb1 Rc1
    rw [H0.out]
    go_wp2_with fail
    refine (Few_any A1 n1 c1 hn1 f1 _ Rb2.out).mono ?_; rintro e w3 ⟨rfl, hb3⟩
    have B3 := Lib.hid (below_step B2.out hb3); have Ra3 := Lib.hid (Ra2.out.later hb3); have Rb3 := Lib.hid (Rb2.out.later hb3); have Rc3 := Lib.hid (Rc2.out.later hb3); clear hb3 B2 Ra2 Rb2 Rc2
    rw [H1.out]
    go_wp2_with fail
    refine (Few_any A2 n2 c2 hn2 f2 _ Rc3.out).mono ?_; rintro e w4 ⟨rfl, hb4⟩
    have B4 := Lib.hid (below_step B3.out hb4); have Ra4 := Lib.hid (Ra3.out.later hb4); have Rb4 := Lib.hid (Rb3.out.later hb4); have Rc4 := Lib.hid (Rc3.out.later hb4); clear hb4 B3 Ra3 Rb3 Rc3
    rw [H2.out]
    go_wp2_with fail
    refine (HAA.out _ Ra4.out Ra4.out).mono ?_; rintro e w5 ⟨rfl, hb5⟩
    have B5 := Lib.hid (below_step B4.out hb5); have Ra5 := Lib.hid (Ra4.out.later hb5); have Rb5 := Lib.hid (Rb4.out.later hb5); have Rc5 := Lib.hid (Rc4.out.later hb5); clear hb5 B4 Ra4 Rb4 Rc4
    go_wp2_with fail
    refine (HAB.out _ Ra5.out Rb5.out).mono ?_; rintro e w6 ⟨rfl, hb6⟩
    have B6 := Lib.hid (below_step B5.out hb6); have Ra6 := Lib.hid (Ra5.out.later hb6); have Rb6 := Lib.hid (Rb5.out.later hb6); have Rc6 := Lib.hid (Rc5.out.later hb6); clear hb6 B5 Ra5 Rb5 Rc5
    go_wp2_with fail
    refine (HAB.out _ Ra6.out Rb6.out).mono ?_; rintro e w7 ⟨rfl, hb7⟩
    have B7 := Lib.hid (below_step B6.out hb7); have Ra7 := Lib.hid (Ra6.out.later hb7); have Rb7 := Lib.hid (Rb6.out.later hb7); have Rc7 := Lib.hid (Rc6.out.later hb7); clear hb7 B6 Ra6 Rb6 Rc6
    go_wp2_with fail
    go_ret
    exact ⟨rfl, B7.out⟩
  · have e3 := t3 rfl
    subst e3
    cases bc
    · go_enter Try.func9, Try.ntmps9
      go_wp2_with fail
      refine (works_any _ gm hgm).mono ?_; rintro e w1 ⟨rfl, hb1⟩
      have B1 := Lib.hid (below_step B0.out hb1); have Ra1 := Lib.hid (Ra0.out.later hb1); have Rb1 := Lib.hid (Rb0.out.later hb1); have Rc1 := Lib.hid (Rc0.out.later hb1); clear hb1 B0 Ra0 Rb0 Rc0
      go_wp2_with fail
      refine (Few_any A0 n0 c0 hn0 f0 _ Ra1.out).mono ?_; rintro e w2 ⟨rfl, hb2⟩
      have B2 := Lib.hid (below_step B1.out hb2); have Ra2 := Lib.hid (Ra1.out.later hb2); have Rb2 := Lib.hid (Rb1.out.later hb2); have Rc2 := Lib.hid (Rc1.out.later hb2); clear hb2 B1 Ra1 Rb1 Rc1
      rw [H0.out]
      go_wp2_with fail
      refine (Few_any A1 n1 c1 hn1 f1 _ Rb2.out).mono ?_; rintro e w3 ⟨rfl, hb3⟩
      have B3 := Lib.hid (below_step B2.out hb3); have Ra3 := Lib.hid (Ra2.out.later hb3); have Rb3 := Lib.hid (Rb2.out.later hb3); have Rc3 := Lib.hid (Rc2.out.later hb3); clear hb3 B2 Ra2 Rb2 Rc2
      rw [H1.out]
      go_wp2_with fail
      refine (Few_any A2 n2 c2 hn2 f2 _ Rc3.out).mono ?_; rintro e w4 ⟨rfl, hb4⟩
      have B4 := Lib.hid (below_step B3.out hb4); have Ra4 := Lib.hid (Ra3.out.later hb4); have Rb4 := Lib.hid (Rb3.out.later hb4); have Rc4 := Lib.hid (Rc3.out.later hb4); clear hb4 B3 Ra3 Rb3 Rc3
      rw [H2.out]
      go_wp2_with fail
      refine (HAA.out _ Ra4.out Ra4.out).mono ?_; rintro e w5 ⟨rfl, hb5⟩
      have B5 := Lib.hid (below_step B4.out hb5); have Ra5 := Lib.hid (Ra4.out.later hb5); have Rb5 := Lib.hid (Rb4.out.later hb5); have Rc5 := Lib.hid (Rc4.out.later hb5); clear hb5 B4 Ra4 Rb4 Rc4
      go_wp2_with fail
      refine (HAB.out _ Ra5.out Rb5.out).mono ?_; rintro e w6 ⟨rfl, hb6⟩
      have B6 := Lib.hid (below_step B5.out hb6); have Ra6 := Lib.hid (Ra5.out.later hb6); have Rb6 := Lib.hid (Rb5.out.later hb6); have Rc6 := Lib.hid (Rc5.out.later hb6); clear hb6 B5 Ra5 Rb5 Rc5
      go_wp2_with fail
      refine (HBC.out _ Rb6.out Rc6.out).mono ?_; rintro e w7 ⟨rfl, hb7⟩
      have B7 := Lib.hid (below_step B6.out hb7); have Ra7 := Lib.hid (Ra6.out.later hb7); have Rb7 := Lib.hid (Rb6.out.later hb7); have Rc7 := Lib.hid (Rc6.out.later hb7); clear hb7 B6 Ra6 Rb6 Rc6
      go_wp2_with fail
      refine (HAB.out _ Ra7.out Rb7.out).mono ?_; rintro e w8 ⟨rfl, hb8⟩
      have B8 := Lib.hid (below_step B7.out hb8); have Ra8 := Lib.hid (Ra7.out.later hb8); have Rb8 := Lib.hid (Rb7.out.later hb8); have Rc8 := Lib.hid (Rc7.out.later hb8); clear hb8 B7 Ra7 Rb7 Rc7
      go_wp2_with fail
      refine (HBA.out _ Rb8.out Ra8.out).mono ?_; rintro e w9 ⟨rfl, hb9⟩
      have B9 := Lib.hid (below_step B8.out hb9); have Ra9 := Lib.hid (Ra8.out.later hb9); have Rb9 := Lib.hid (Rb8.out.later hb9); have Rc9 := Lib.hid (Rc8.out.later hb9); clear hb9 B8 Ra8 Rb8 Rc8
      go_wp2_with fail
      go_ret
      exact ⟨rfl, B9.out⟩
    · have e2 := t2 rfl rfl
      subst e2
      clear t2 t3
      go_enter Try.func9, Try.ntmps9
      go_wp2_with fail
      refine (works_any _ gm hgm).mono ?_; rintro e w1 ⟨rfl, hb1⟩
      have B1 := Lib.hid (below_step B0.out hb1); have Ra1 := Lib.hid (Ra0.out.later hb1); have Rb1 := Lib.hid (Rb0.out.later hb1); have Rc1 := Lib.hid (Rc0.out.later hb1); clear hb1 B0 Ra0 Rb0 Rc0
      go_wp2_with fail
      refine (Few_any A0 n0 c0 hn0 f0 _ Ra1.out).mono ?_; rintro e w2 ⟨rfl, hb2⟩
      have B2 := Lib.hid (below_step B1.out hb2); have Ra2 := Lib.hid (Ra1.out.later hb2); have Rb2 := Lib.hid (Rb1.out.later hb2); have Rc2 := Lib.hid (Rc1.out.later hb2); clear hb2 B1 Ra1 Rb1 Rc1
      rw [H0.out]
      go_wp2_with fail
      refine (Few_any A1 n1 c1 hn1 f1 _ Rb2.out).mono ?_; rintro e w3 ⟨rfl, hb3⟩
      have B3 := Lib.hid (below_step B2.out hb3); have Ra3 := Lib.hid (Ra2.out.later hb3); have Rb3 := Lib.hid (Rb2.out.later hb3); have Rc3 := Lib.hid (Rc2.out.later hb3); clear hb3 B2 Ra2 Rb2 Rc2
      rw [H1.out]
      go_wp2_with fail
      refine (Few_any A2 n2 c2 hn2 f2 _ Rc3.out).mono ?_; rintro e w4 ⟨rfl, hb4⟩
      have B4 := Lib.hid (below_step B3.out hb4); have Ra4 := Lib.hid (Ra3.out.later hb4); have Rb4 := Lib.hid (Rb3.out.later hb4); have Rc4 := Lib.hid (Rc3.out.later hb4); clear hb4 B3 Ra3 Rb3 Rc3
      rw [H2.out]
      go_wp2_with fail
      refine (HAA.out _ Ra4.out Ra4.out).mono ?_; rintro e w5 ⟨rfl, hb5⟩
      have B5 := Lib.hid (below_step B4.out hb5); have Ra5 := Lib.hid (Ra4.out.later hb5); have Rb5 := Lib.hid (Rb4.out.later hb5); have Rc5 := Lib.hid (Rc4.out.later hb5); clear hb5 B4 Ra4 Rb4 Rc4
      go_wp2_with fail
      refine (HAB.out _ Ra5.out Rb5.out).mono ?_; rintro e w6 ⟨rfl, hb6⟩
      have B6 := Lib.hid (below_step B5.out hb6); have Ra6 := Lib.hid (Ra5.out.later hb6); have Rb6 := Lib.hid (Rb5.out.later hb6); have Rc6 := Lib.hid (Rc5.out.later hb6); clear hb6 B5 Ra5 Rb5 Rc5
      go_wp2_with fail
      refine (HBC.out _ Rb6.out Rc6.out).mono ?_; rintro e w7 ⟨rfl, hb7⟩
      have B7 := Lib.hid (below_step B6.out hb7); have Ra7 := Lib.hid (Ra6.out.later hb7); have Rb7 := Lib.hid (Rb6.out.later hb7); have Rc7 := Lib.hid (Rc6.out.later hb7); clear hb7 B6 Ra6 Rb6 Rc6
      go_wp2_with fail
      refine (HAC.out _ Ra7.out Rc7.out).mono ?_; rintro e w8 ⟨rfl, hb8⟩
      have B8 := Lib.hid (below_step B7.out hb8); have Ra8 := Lib.hid (Ra7.out.later hb8); have Rb8 := Lib.hid (Rb7.out.later hb8); have Rc8 := Lib.hid (Rc7.out.later hb8); clear hb8 B7 Ra7 Rb7 Rc7
      go_wp2_with fail
      refine (HAB.out _ Ra8.out Rb8.out).mono ?_; rintro e w9 ⟨rfl, hb9⟩
      have B9 := Lib.hid (below_step B8.out hb9); have Ra9 := Lib.hid (Ra8.out.later hb9); have Rb9 := Lib.hid (Rb8.out.later hb9); have Rc9 := Lib.hid (Rc8.out.later hb9); clear hb9 B8 Ra8 Rb8 Rc8
      go_wp2_with fail
      refine (HBA.out _ Rb9.out Ra9.out).mono ?_; rintro e w10 ⟨rfl, hb10⟩
      have B10 := Lib.hid (below_step B9.out hb10); have Ra10 := Lib.hid (Ra9.out.later hb10); have Rb10 := Lib.hid (Rb9.out.later hb10); have Rc10 := Lib.hid (Rc9.out.later hb10); clear hb10 B9 Ra9 Rb9 Rc9
      go_wp2_with fail
      go_ret
      exact ⟨rfl, B10.out⟩
end Go.Proofs.Ytieoncjdhileoaa
