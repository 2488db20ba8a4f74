/-
  LabelBack: the walk of the law.
-/
import Derived.Test.YtieoncjdhileoaaLaR
namespace Go.Proofs.Ytieoncjdhileoaa
open Go.RowKit

theorem Of_key_any (f : Nat → Lab) (n : Nat) (h : La.right f n = true) (w : World) :
    Calls Try.prog 25 #[.string (La.keyB f n)] w fun e w' => (∃ A c, e = .returned (.tuple #[.slice A n c, .bool true]) ∧ LabRow w' A n f) ∧ Below w.heap.size w w' := by
  obtain ⟨h1, h2, h3⟩ := La.right_parts h
  have hz := La.key_length f n (fun i hi => ⟨by have := La.okName_size (h3 i hi).1; omega, by have := La.allB_pos (h3 i hi).2.1; omega⟩)
  refine (Of_any _ (by unfold La.keyB maxLen; rw [La.size_mk]; omega) w).mono ?_
  rintro e w2 (⟨L, A, c, hL, rfl, _, _, hrow, hb⟩ | ⟨hN, _⟩)
  · rw [La.of_of_key h] at hL
    cases hL
    rw [La.listOf_length] at hrow ⊢
    exact ⟨⟨A, c, rfl, hrow.eqOn (fun i hi => La.at_listOf f n i hi)⟩, hb⟩
  · rw [La.of_of_key h] at hN; cases hN
theorem Read_show_any (f : Nat → Lab) (n : Nat) (h : La.right f n = true) (w : World) (m : Int) (hm : w.cell? ⟨0, 0, none⟩ = some (.int .i64 m)) :
    Calls Try.prog 27 #[.string (La.showB f n)] w fun e w' => (∃ A c, e = .returned (.tuple #[.slice A n c, .bool true]) ∧ LabRow w' A n f) ∧ Below w.heap.size w w' := by
  obtain ⟨h1, h2, h3⟩ := La.right_parts h
  have hz := La.shown_length f n (fun i hi => ⟨by have := La.okName_size (h3 i hi).1; omega, by have := La.allB_pos (h3 i hi).2.1; omega⟩)
  refine (Read_any _ (by unfold La.showB; rw [La.size_mk, List.length_append, List.length_singleton]; omega) w m hm).mono ?_
  rintro e w2 (⟨L, A, c, hL, rfl, _, _, hrow, hb⟩ | ⟨hN, _⟩)
  · rw [La.read_of_show h] at hL
    cases hL
    rw [La.listOf_length] at hrow ⊢
    exact ⟨⟨A, c, rfl, hrow.eqOn (fun i hi => La.at_listOf f n i hi)⟩, hb⟩
  · rw [La.read_of_show h] at hN; cases hN

set_option maxRecDepth 100000 in
set_option maxHeartbeats 2000000 in
theorem labelBack_walk (w : World) (gm : Int) (hgm : w.cell? ⟨0, 0, none⟩ = some (.int .i64 gm)) (A0 : Option Addr) (n0 c0 : Nat) (f0 : Nat → Lab) (hn0 : n0 ≤ maxLen) (hz0 : ∀ i, i < n0 → (f0 i).1.size ≤ maxLen ∧ (f0 i).2.size ≤ maxLen) (hl0 : LabRow w A0 n0 f0) (_hx0 : A0 = none → n0 = 0 ∧ c0 = 0) (_hq0 : n0 ≤ c0) (A1 : Option Addr) (n1 c1 : Nat) (f1 : Nat → Lab) (hn1 : n1 ≤ maxLen) (hz1 : ∀ i, i < n1 → (f1 i).1.size ≤ maxLen ∧ (f1 i).2.size ≤ maxLen) (hl1 : LabRow w A1 n1 f1) (_hx1 : A1 = none → n1 = 0 ∧ c1 = 0) (_hq1 : n1 ≤ c1) :
    Calls Try.prog 6 #[.slice A0 n0 c0, .slice A1 n1 c1] w fun e w' => e = .returned (.bool true) ∧ Below w.heap.size w w' := by
  have Ra0 := Lib.hid hl0; have Rb0 := Lib.hid hl1; have B0 := Lib.hid (Below.refl w.heap.size w); clear hl0 hl1
  have hm2 : ∀ W, Below w.heap.size w W → W.cell? ⟨0, 0, none⟩ = some (.int .i64 gm) := fun W hW => (hW.cell (block_lt_of_cell hgm)).trans hgm
  have HM := Lib.hid hm2; clear hm2
  have e0 : (((La.err false : Nat) : Int) != 0) = true := by decide
  have e1 : (((La.err true : Nat) : Int) != 0) = false := by decide
  cases hf0 : La.few f0 n0
  · go_enter Try.func6, Try.ntmps6
    go_wp2_with fail
    refine (works_any _ gm hgm).mono ?_; rintro e w1 ⟨rfl, hb1⟩
    have B1 := Lib.hid (below_step B0.out hb1); have Ra1 := Lib.hid (Ra0.out.later hb1); have Rb1 := Lib.hid (Rb0.out.later hb1); clear hb1 B0 Ra0 Rb0
    go_wp2_with fail
    refine (Few_any A0 n0 c0 hn0 f0 _ Ra1.out).mono ?_; rintro e w2 ⟨rfl, hb2⟩
    have B2 := Lib.hid (below_step B1.out hb2); have Ra2 := Lib.hid (Ra1.out.later hb2); have Rb2 := Lib.hid (Rb1.out.later hb2); clear hb2 B1 Ra1 Rb1
    rw [hf0]
    go_wp2_with fail
    go_ret
    exact ⟨rfl, B2.out⟩
  cases hf1 : La.few f1 n1
  · go_enter Try.func6, Try.ntmps6
    go_wp2_with fail
    refine (works_any _ gm hgm).mono ?_; rintro e w1 ⟨rfl, hb1⟩
    have B1 := Lib.hid (below_step B0.out hb1); have Ra1 := Lib.hid (Ra0.out.later hb1); have Rb1 := Lib.hid (Rb0.out.later hb1); clear hb1 B0 Ra0 Rb0
    go_wp2_with fail
    refine (Few_any A0 n0 c0 hn0 f0 _ Ra1.out).mono ?_; rintro e w2 ⟨rfl, hb2⟩
    have B2 := Lib.hid (below_step B1.out hb2); have Ra2 := Lib.hid (Ra1.out.later hb2); have Rb2 := Lib.hid (Rb1.out.later hb2); clear hb2 B1 Ra1 Rb1
    rw [hf0]
    go_wp2_with fail
    refine (Few_any A1 n1 c1 hn1 f1 _ Rb2.out).mono ?_; rintro e w3 ⟨rfl, hb3⟩
    have B3 := Lib.hid (below_step B2.out hb3); have Ra3 := Lib.hid (Ra2.out.later hb3); have Rb3 := Lib.hid (Rb2.out.later hb3); clear hb3 B2 Ra2 Rb2
    rw [hf1]
    go_wp2_with fail
    go_ret
    exact ⟨rfl, B3.out⟩
  obtain ⟨hF0, hS0⟩ := La.few_yes hf0; obtain ⟨hF1, hS1⟩ := La.few_yes hf1
  have H0 := Lib.hid hf0; have H1 := Lib.hid hf1; clear hf0 hf1
  have hC0 := fun W (hW : LabRow W A0 n0 f0) => Check_any A0 n0 c0 hn0 f0 hz0 W hW
  have hC1 := fun W (hW : LabRow W A1 n1 f1) => Check_any A1 n1 c1 hn1 f1 hz1 W hW
  clear hz0 hz1
  cases hr0 : La.right f0 n0
  · rw [hr0] at hC0
    have HC0 := Lib.hid hC0; clear hC0 hC1 hS0 hS1
    go_enter Try.func6, Try.ntmps6
    go_wp2_with fail
    refine (works_any _ gm hgm).mono ?_; rintro e w1 ⟨rfl, hb1⟩
    have B1 := Lib.hid (below_step B0.out hb1); have Ra1 := Lib.hid (Ra0.out.later hb1); have Rb1 := Lib.hid (Rb0.out.later hb1); clear hb1 B0 Ra0 Rb0
    go_wp2_with fail
    refine (Few_any A0 n0 c0 hn0 f0 _ Ra1.out).mono ?_; rintro e w2 ⟨rfl, hb2⟩
    have B2 := Lib.hid (below_step B1.out hb2); have Ra2 := Lib.hid (Ra1.out.later hb2); have Rb2 := Lib.hid (Rb1.out.later hb2); clear hb2 B1 Ra1 Rb1
    rw [H0.out]
    go_wp2_with fail
    refine (Few_any A1 n1 c1 hn1 f1 _ Rb2.out).mono ?_; rintro e w3 ⟨rfl, hb3⟩
    have B3 := Lib.hid (below_step B2.out hb3); have Ra3 := Lib.hid (Ra2.out.later hb3); have Rb3 := Lib.hid (Rb2.out.later hb3); clear hb3 B2 Ra2 Rb2
    rw [H1.out]
    go_wp2_with fail
    refine (HC0.out _ Ra3.out).mono ?_; rintro e w4 ⟨rfl, hb4⟩
    have B4 := Lib.hid (below_step B3.out hb4); have Ra4 := Lib.hid (Ra3.out.later hb4); have Rb4 := Lib.hid (Rb3.out.later hb4); clear hb4 B3 Ra3 Rb3
    go_wp2_with fail
    go_ret
    exact ⟨rfl, B4.out⟩
  rw [hr0] at hC0
  have hK0 := fun W (hW : LabRow W A0 n0 f0) => Key_any A0 n0 c0 (by omega) f0 hS0 W hW
  have hW0 := fun W (hW : LabRow W A0 n0 f0) => Show_any A0 n0 c0 (by omega) f0 hS0 W hW
  have hK1 := fun W (hW : LabRow W A1 n1 f1) => Key_any A1 n1 c1 (by omega) f1 hS1 W hW
  have hW1 := fun W (hW : LabRow W A1 n1 f1) => Show_any A1 n1 c1 (by omega) f1 hS1 W hW
  have hO0 := fun W => Of_key_any f0 n0 hr0 W
  have hR0 := fun W (hW : Below w.heap.size w W) => Read_show_any f0 n0 hr0 W gm (HM.out W hW)
  have hX := fun A c W (hW : LabRow W A n0 f0) (hV : LabRow W A0 n0 f0) => Same_any A A0 n0 n0 c c0 hn0 f0 f0 W hW hV
  rw [(La.same_iff f0 f0 n0 n0).2 rfl] at hX
  have hAB := fun W (hW : LabRow W A0 n0 f0) (hV : LabRow W A1 n1 f1) => Less_any A0 A1 n0 n1 c0 c1 (by omega) (by omega) f0 f1 hS0 hS1 W hW hV
  have hBA := fun W (hW : LabRow W A1 n1 f1) (hV : LabRow W A0 n0 f0) => Less_any A1 A0 n1 n0 c1 c0 (by omega) (by omega) f1 f0 hS1 hS0 W hW hV
  have hSM := fun W (hW : LabRow W A0 n0 f0) (hV : LabRow W A1 n1 f1) => Same_any A0 A1 n0 n1 c0 c1 hn0 f0 f1 W hW hV
  have hsm := La.same_iff f0 f1 n0 n1
  have tri := La.less_tri (La.keyB f0 n0) (La.keyB f1 n1)
  have asy1 : La.less (La.keyB f0 n0) (La.keyB f1 n1) = true → La.less (La.keyB f1 n1) (La.keyB f0 n0) = false := La.less_asymm
  have asy2 : La.less (La.keyB f1 n1) (La.keyB f0 n0) = true → La.less (La.keyB f0 n0) (La.keyB f1 n1) = false := La.less_asymm
  have kin := fun h => La.key_inj hr0 (f := f0) (g := f1) (n := n0) (m := n1) h
  have sin := fun h => La.show_inj hr0 (f := f0) (g := f1) (n := n0) (m := n1) h
  clear hS0 hS1
  generalize La.keyB f0 n0 = K0 at *
  generalize La.keyB f1 n1 = K1 at *
  generalize La.showB f0 n0 = S0 at *
  generalize La.showB f1 n1 = S1 at *
  generalize La.less K0 K1 = ab at *
  generalize La.less K1 K0 = ba at *
  generalize (decide (n0 = n1) && La.same f0 f1 n0) = sm at *
  have HC0 := Lib.hid hC0; have HK0 := Lib.hid hK0; have HW0 := Lib.hid hW0; have HK1 := Lib.hid hK1; have HW1 := Lib.hid hW1; have HO0 := Lib.hid hO0; have HR0 := Lib.hid hR0; have HX := Lib.hid hX; have HAB := Lib.hid hAB; have HBA := Lib.hid hBA; have HSM := Lib.hid hSM
  clear hC0 hK0 hW0 hK1 hW1 hO0 hR0 hX hAB hBA hSM hr0
  cases hr1 : La.right f1 n1
  · rw [hr1] at hC1
    have HC1 := Lib.hid hC1; clear hC1 hsm tri asy1 asy2 kin sin HK1 HW1 HAB HBA HSM
    go_enter Try.func6, Try.ntmps6
    go_wp2_with fail
    refine (works_any _ gm hgm).mono ?_; rintro e w1 ⟨rfl, hb1⟩
    have B1 := Lib.hid (below_step B0.out hb1); have Ra1 := Lib.hid (Ra0.out.later hb1); have Rb1 := Lib.hid (Rb0.out.later hb1); clear hb1 B0 Ra0 Rb0
    go_wp2_with fail
    refine (Few_any A0 n0 c0 hn0 f0 _ Ra1.out).mono ?_; rintro e w2 ⟨rfl, hb2⟩
    have B2 := Lib.hid (below_step B1.out hb2); have Ra2 := Lib.hid (Ra1.out.later hb2); have Rb2 := Lib.hid (Rb1.out.later hb2); clear hb2 B1 Ra1 Rb1
    rw [H0.out]
    go_wp2_with fail
    refine (Few_any A1 n1 c1 hn1 f1 _ Rb2.out).mono ?_; rintro e w3 ⟨rfl, hb3⟩
    have B3 := Lib.hid (below_step B2.out hb3); have Ra3 := Lib.hid (Ra2.out.later hb3); have Rb3 := Lib.hid (Rb2.out.later hb3); clear hb3 B2 Ra2 Rb2
    rw [H1.out]
    go_wp2_with fail
    refine (HC0.out _ Ra3.out).mono ?_; rintro e w4 ⟨rfl, hb4⟩
    have B4 := Lib.hid (below_step B3.out hb4); have Ra4 := Lib.hid (Ra3.out.later hb4); have Rb4 := Lib.hid (Rb3.out.later hb4); clear hb4 B3 Ra3 Rb3
    go_wp2_with fail
    refine (HK0.out _ Ra4.out).mono ?_; rintro e w5 ⟨rfl, hb5⟩
    have B5 := Lib.hid (below_step B4.out hb5); have Ra5 := Lib.hid (Ra4.out.later hb5); have Rb5 := Lib.hid (Rb4.out.later hb5); clear hb5 B4 Ra4 Rb4
    go_wp2_with fail
    refine (HO0.out _).mono ?_; rintro e w6 ⟨⟨Ax, cx, rfl, hx⟩, hb6⟩
    have B6 := Lib.hid (below_step B5.out hb6); have Ra6 := Lib.hid (Ra5.out.later hb6); have Rb6 := Lib.hid (Rb5.out.later hb6); clear hb6 B5 Ra5 Rb5
    have Rc6 := Lib.hid hx; clear hx
    go_wp2_with fail
    refine (HW0.out _ Ra6.out).mono ?_; rintro e w7 ⟨rfl, hb7⟩
    have B7 := Lib.hid (below_step B6.out hb7); have Ra7 := Lib.hid (Ra6.out.later hb7); have Rb7 := Lib.hid (Rb6.out.later hb7); have Rc7 := Lib.hid (Rc6.out.later hb7); clear hb7 B6 Ra6 Rb6 Rc6
    go_wp2_with fail
    refine (HR0.out _ B7.out).mono ?_; rintro e w8 ⟨⟨Ay, cy, rfl, hy⟩, hb8⟩
    have B8 := Lib.hid (below_step B7.out hb8); have Ra8 := Lib.hid (Ra7.out.later hb8); have Rb8 := Lib.hid (Rb7.out.later hb8); have Rc8 := Lib.hid (Rc7.out.later hb8); clear hb8 B7 Ra7 Rb7 Rc7
    have Rd8 := Lib.hid hy; clear hy
    go_wp2_with fail
    refine (HX.out _ _ _ Rc8.out Ra8.out).mono ?_; rintro e w9 ⟨rfl, hb9⟩
    have B9 := Lib.hid (below_step B8.out hb9); have Ra9 := Lib.hid (Ra8.out.later hb9); have Rb9 := Lib.hid (Rb8.out.later hb9); have Rc9 := Lib.hid (Rc8.out.later hb9); have Rd9 := Lib.hid (Rd8.out.later hb9); clear hb9 B8 Ra8 Rb8 Rc8 Rd8
    go_wp2_with fail
    refine (HX.out _ _ _ Rd9.out Ra9.out).mono ?_; rintro e w10 ⟨rfl, hb10⟩
    have B10 := Lib.hid (below_step B9.out hb10); have Ra10 := Lib.hid (Ra9.out.later hb10); have Rb10 := Lib.hid (Rb9.out.later hb10); have Rc10 := Lib.hid (Rc9.out.later hb10); have Rd10 := Lib.hid (Rd9.out.later hb10); clear hb10 B9 Ra9 Rb9 Rc9 Rd9
    go_wp2_with fail
    refine (HC1.out _ Rb10.out).mono ?_; rintro e w11 ⟨rfl, hb11⟩
    have B11 := Lib.hid (below_step B10.out hb11); have Ra11 := Lib.hid (Ra10.out.later hb11); have Rb11 := Lib.hid (Rb10.out.later hb11); have Rc11 := Lib.hid (Rc10.out.later hb11); have Rd11 := Lib.hid (Rd10.out.later hb11); clear hb11 B10 Ra10 Rb10 Rc10 Rd10
    go_wp2_with fail
    go_ret
    exact ⟨rfl, B11.out⟩
  rw [hr1] at hC1
  have HC1 := Lib.hid hC1
  have kin2 := kin hr1; have sin2 := sin hr1
  clear hC1 kin sin hr1
  cases sm
  · have hne : ¬ La.listOf f0 n0 = La.listOf f1 n1 := fun h => by have := hsm.2 h; cases this
    have q1 : (K0.toList == K1.toList) = false := by
      rw [beq_eq_false_iff_ne]; intro e; rw [Lib.toList_data, Lib.toList_data] at e
      exact hne (kin2.1 (by rw [← Lib.mk_data K0, ← Lib.mk_data K1, e]))
    have q2 : (S0.toList == S1.toList) = false := by
      rw [beq_eq_false_iff_ne]; intro e; rw [Lib.toList_data, Lib.toList_data] at e
      exact hne (sin2.1 (by rw [← Lib.mk_data S0, ← Lib.mk_data S1, e]))
    have hlt : (ab = true ∧ ba = false) ∨ (ab = false ∧ ba = true) := by
      rcases tri with h | h | h
      · exact .inl ⟨h, asy1 h⟩
      · exact absurd (kin2.1 h) hne
      · exact .inr ⟨asy2 h, h⟩
    clear hne kin2 sin2 tri asy1 asy2 hsm
    rcases hlt with ⟨rfl, rfl⟩ | ⟨rfl, rfl⟩
    · go_enter Try.func6, Try.ntmps6
      go_wp2_with fail
      refine (works_any _ gm hgm).mono ?_; rintro e w1 ⟨rfl, hb1⟩
      have B1 := Lib.hid (below_step B0.out hb1); have Ra1 := Lib.hid (Ra0.out.later hb1); have Rb1 := Lib.hid (Rb0.out.later hb1); clear hb1 B0 Ra0 Rb0
      go_wp2_with fail
      refine (Few_any A0 n0 c0 hn0 f0 _ Ra1.out).mono ?_; rintro e w2 ⟨rfl, hb2⟩
      have B2 := Lib.hid (below_step B1.out hb2); have Ra2 := Lib.hid (Ra1.out.later hb2); have Rb2 := Lib.hid (Rb1.out.later hb2); clear hb2 B1 Ra1 Rb1
      rw [H0.out]
      go_wp2_with fail
      refine (Few_any A1 n1 c1 hn1 f1 _ Rb2.out).mono ?_; rintro e w3 ⟨rfl, hb3⟩
      have B3 := Lib.hid (below_step B2.out hb3); have Ra3 := Lib.hid (Ra2.out.later hb3); have Rb3 := Lib.hid (Rb2.out.later hb3); clear hb3 B2 Ra2 Rb2
      rw [H1.out]
      go_wp2_with fail
      refine (HC0.out _ Ra3.out).mono ?_; rintro e w4 ⟨rfl, hb4⟩
      have B4 := Lib.hid (below_step B3.out hb4); have Ra4 := Lib.hid (Ra3.out.later hb4); have Rb4 := Lib.hid (Rb3.out.later hb4); clear hb4 B3 Ra3 Rb3
      go_wp2_with fail
      refine (HK0.out _ Ra4.out).mono ?_; rintro e w5 ⟨rfl, hb5⟩
      have B5 := Lib.hid (below_step B4.out hb5); have Ra5 := Lib.hid (Ra4.out.later hb5); have Rb5 := Lib.hid (Rb4.out.later hb5); clear hb5 B4 Ra4 Rb4
      go_wp2_with fail
      refine (HO0.out _).mono ?_; rintro e w6 ⟨⟨Ax, cx, rfl, hx⟩, hb6⟩
      have B6 := Lib.hid (below_step B5.out hb6); have Ra6 := Lib.hid (Ra5.out.later hb6); have Rb6 := Lib.hid (Rb5.out.later hb6); clear hb6 B5 Ra5 Rb5
      have Rc6 := Lib.hid hx; clear hx
      go_wp2_with fail
      refine (HW0.out _ Ra6.out).mono ?_; rintro e w7 ⟨rfl, hb7⟩
      have B7 := Lib.hid (below_step B6.out hb7); have Ra7 := Lib.hid (Ra6.out.later hb7); have Rb7 := Lib.hid (Rb6.out.later hb7); have Rc7 := Lib.hid (Rc6.out.later hb7); clear hb7 B6 Ra6 Rb6 Rc6
      go_wp2_with fail
      refine (HR0.out _ B7.out).mono ?_; rintro e w8 ⟨⟨Ay, cy, rfl, hy⟩, hb8⟩
      have B8 := Lib.hid (below_step B7.out hb8); have Ra8 := Lib.hid (Ra7.out.later hb8); have Rb8 := Lib.hid (Rb7.out.later hb8); have Rc8 := Lib.hid (Rc7.out.later hb8); clear hb8 B7 Ra7 Rb7 Rc7
      have Rd8 := Lib.hid hy; clear hy
      go_wp2_with fail
      refine (HX.out _ _ _ Rc8.out Ra8.out).mono ?_; rintro e w9 ⟨rfl, hb9⟩
      have B9 := Lib.hid (below_step B8.out hb9); have Ra9 := Lib.hid (Ra8.out.later hb9); have Rb9 := Lib.hid (Rb8.out.later hb9); have Rc9 := Lib.hid (Rc8.out.later hb9); have Rd9 := Lib.hid (Rd8.out.later hb9); clear hb9 B8 Ra8 Rb8 Rc8 Rd8
      go_wp2_with fail
      refine (HX.out _ _ _ Rd9.out Ra9.out).mono ?_; rintro e w10 ⟨rfl, hb10⟩
      have B10 := Lib.hid (below_step B9.out hb10); have Ra10 := Lib.hid (Ra9.out.later hb10); have Rb10 := Lib.hid (Rb9.out.later hb10); have Rc10 := Lib.hid (Rc9.out.later hb10); have Rd10 := Lib.hid (Rd9.out.later hb10); clear hb10 B9 Ra9 Rb9 Rc9 Rd9
      go_wp2_with fail
      refine (HC1.out _ Rb10.out).mono ?_; rintro e w11 ⟨rfl, hb11⟩
      have B11 := Lib.hid (below_step B10.out hb11); have Ra11 := Lib.hid (Ra10.out.later hb11); have Rb11 := Lib.hid (Rb10.out.later hb11); have Rc11 := Lib.hid (Rc10.out.later hb11); have Rd11 := Lib.hid (Rd10.out.later hb11); clear hb11 B10 Ra10 Rb10 Rc10 Rd10
      go_wp2_with fail
      refine (HSM.out _ Ra11.out Rb11.out).mono ?_; rintro e w12 ⟨rfl, hb12⟩
      have B12 := Lib.hid (below_step B11.out hb12); have Ra12 := Lib.hid (Ra11.out.later hb12); have Rb12 := Lib.hid (Rb11.out.later hb12); have Rc12 := Lib.hid (Rc11.out.later hb12); have Rd12 := Lib.hid (Rd11.out.later hb12); clear hb12 B11 Ra11 Rb11 Rc11 Rd11
      go_wp2_with fail
      refine (HK0.out _ Ra12.out).mono ?_; rintro e w13 ⟨rfl, hb13⟩
      have B13 := Lib.hid (below_step B12.out hb13); have Ra13 := Lib.hid (Ra12.out.later hb13); have Rb13 := Lib.hid (Rb12.out.later hb13); have Rc13 := Lib.hid (Rc12.out.later hb13); have Rd13 := Lib.hid (Rd12.out.later hb13); clear hb13 B12 Ra12 Rb12 Rc12 Rd12
      go_wp2_with fail
      refine (HK1.out _ Rb13.out).mono ?_; rintro e w14 ⟨rfl, hb14⟩
      have B14 := Lib.hid (below_step B13.out hb14); have Ra14 := Lib.hid (Ra13.out.later hb14); have Rb14 := Lib.hid (Rb13.out.later hb14); have Rc14 := Lib.hid (Rc13.out.later hb14); have Rd14 := Lib.hid (Rd13.out.later hb14); clear hb14 B13 Ra13 Rb13 Rc13 Rd13
      go_wp2_with fail
      refine (HW0.out _ Ra14.out).mono ?_; rintro e w15 ⟨rfl, hb15⟩
      have B15 := Lib.hid (below_step B14.out hb15); have Ra15 := Lib.hid (Ra14.out.later hb15); have Rb15 := Lib.hid (Rb14.out.later hb15); have Rc15 := Lib.hid (Rc14.out.later hb15); have Rd15 := Lib.hid (Rd14.out.later hb15); clear hb15 B14 Ra14 Rb14 Rc14 Rd14
      go_wp2_with fail
      refine (HW1.out _ Rb15.out).mono ?_; rintro e w16 ⟨rfl, hb16⟩
      have B16 := Lib.hid (below_step B15.out hb16); have Ra16 := Lib.hid (Ra15.out.later hb16); have Rb16 := Lib.hid (Rb15.out.later hb16); have Rc16 := Lib.hid (Rc15.out.later hb16); have Rd16 := Lib.hid (Rd15.out.later hb16); clear hb16 B15 Ra15 Rb15 Rc15 Rd15
      go_wp2_with fail
      refine (HAB.out _ Ra16.out Rb16.out).mono ?_; rintro e w17 ⟨rfl, hb17⟩
      have B17 := Lib.hid (below_step B16.out hb17); have Ra17 := Lib.hid (Ra16.out.later hb17); have Rb17 := Lib.hid (Rb16.out.later hb17); have Rc17 := Lib.hid (Rc16.out.later hb17); have Rd17 := Lib.hid (Rd16.out.later hb17); clear hb17 B16 Ra16 Rb16 Rc16 Rd16
      go_wp2_with fail
      refine (HBA.out _ Rb17.out Ra17.out).mono ?_; rintro e w18 ⟨rfl, hb18⟩
      have B18 := Lib.hid (below_step B17.out hb18); have Ra18 := Lib.hid (Ra17.out.later hb18); have Rb18 := Lib.hid (Rb17.out.later hb18); have Rc18 := Lib.hid (Rc17.out.later hb18); have Rd18 := Lib.hid (Rd17.out.later hb18); clear hb18 B17 Ra17 Rb17 Rc17 Rd17
      go_wp2_with fail
      go_ret
      exact ⟨rfl, B18.out⟩
    · go_enter Try.func6, Try.ntmps6
      go_wp2_with fail
      refine (works_any _ gm hgm).mono ?_; rintro e w1 ⟨rfl, hb1⟩
      have B1 := Lib.hid (below_step B0.out hb1); have Ra1 := Lib.hid (Ra0.out.later hb1); have Rb1 := Lib.hid (Rb0.out.later hb1); clear hb1 B0 Ra0 Rb0
      go_wp2_with fail
      refine (Few_any A0 n0 c0 hn0 f0 _ Ra1.out).mono ?_; rintro e w2 ⟨rfl, hb2⟩
      have B2 := Lib.hid (below_step B1.out hb2); have Ra2 := Lib.hid (Ra1.out.later hb2); have Rb2 := Lib.hid (Rb1.out.later hb2); clear hb2 B1 Ra1 Rb1
      rw [H0.out]
      go_wp2_with fail
      refine (Few_any A1 n1 c1 hn1 f1 _ Rb2.out).mono ?_; rintro e w3 ⟨rfl, hb3⟩
      have B3 := Lib.hid (below_step B2.out hb3); have Ra3 := Lib.hid (Ra2.out.later hb3); have Rb3 := Lib.hid (Rb2.out.later hb3); clear hb3 B2 Ra2 Rb2
      rw [H1.out]
      go_wp2_with fail
      refine (HC0.out _ Ra3.out).mono ?_; rintro e w4 ⟨rfl, hb4⟩
      have B4 := Lib.hid (below_step B3.out hb4); have Ra4 := Lib.hid (Ra3.out.later hb4); have Rb4 := Lib.hid (Rb3.out.later hb4); clear hb4 B3 Ra3 Rb3
      go_wp2_with fail
      refine (HK0.out _ Ra4.out).mono ?_; rintro e w5 ⟨rfl, hb5⟩
      have B5 := Lib.hid (below_step B4.out hb5); have Ra5 := Lib.hid (Ra4.out.later hb5); have Rb5 := Lib.hid (Rb4.out.later hb5); clear hb5 B4 Ra4 Rb4
      go_wp2_with fail
      refine (HO0.out _).mono ?_; rintro e w6 ⟨⟨Ax, cx, rfl, hx⟩, hb6⟩
      have B6 := Lib.hid (below_step B5.out hb6); have Ra6 := Lib.hid (Ra5.out.later hb6); have Rb6 := Lib.hid (Rb5.out.later hb6); clear hb6 B5 Ra5 Rb5
      have Rc6 := Lib.hid hx; clear hx
      go_wp2_with fail
      refine (HW0.out _ Ra6.out).mono ?_; rintro e w7 ⟨rfl, hb7⟩
      have B7 := Lib.hid (below_step B6.out hb7); have Ra7 := Lib.hid (Ra6.out.later hb7); have Rb7 := Lib.hid (Rb6.out.later hb7); have Rc7 := Lib.hid (Rc6.out.later hb7); clear hb7 B6 Ra6 Rb6 Rc6
      go_wp2_with fail
      refine (HR0.out _ B7.out).mono ?_; rintro e w8 ⟨⟨Ay, cy, rfl, hy⟩, hb8⟩
      have B8 := Lib.hid (below_step B7.out hb8); have Ra8 := Lib.hid (Ra7.out.later hb8); have Rb8 := Lib.hid (Rb7.out.later hb8); have Rc8 := Lib.hid (Rc7.out.later hb8); clear hb8 B7 Ra7 Rb7 Rc7
      have Rd8 := Lib.hid hy; clear hy
      go_wp2_with fail
      refine (HX.out _ _ _ Rc8.out Ra8.out).mono ?_; rintro e w9 ⟨rfl, hb9⟩
      have B9 := Lib.hid (below_step B8.out hb9); have Ra9 := Lib.hid (Ra8.out.later hb9); have Rb9 := Lib.hid (Rb8.out.later hb9); have Rc9 := Lib.hid (Rc8.out.later hb9); have Rd9 := Lib.hid (Rd8.out.later hb9); clear hb9 B8 Ra8 Rb8 Rc8 Rd8
      go_wp2_with fail
      refine (HX.out _ _ _ Rd9.out Ra9.out).mono ?_; rintro e w10 ⟨rfl, hb10⟩
      have B10 := Lib.hid (below_step B9.out hb10); have Ra10 := Lib.hid (Ra9.out.later hb10); have Rb10 := Lib.hid (Rb9.out.later hb10); have Rc10 := Lib.hid (Rc9.out.later hb10); have Rd10 := Lib.hid (Rd9.out.later hb10); clear hb10 B9 Ra9 Rb9 Rc9 Rd9
      go_wp2_with fail
      refine (HC1.out _ Rb10.out).mono ?_; rintro e w11 ⟨rfl, hb11⟩
      have B11 := Lib.hid (below_step B10.out hb11); have Ra11 := Lib.hid (Ra10.out.later hb11); have Rb11 := Lib.hid (Rb10.out.later hb11); have Rc11 := Lib.hid (Rc10.out.later hb11); have Rd11 := Lib.hid (Rd10.out.later hb11); clear hb11 B10 Ra10 Rb10 Rc10 Rd10
      go_wp2_with fail
      refine (HSM.out _ Ra11.out Rb11.out).mono ?_; rintro e w12 ⟨rfl, hb12⟩
      have B12 := Lib.hid (below_step B11.out hb12); have Ra12 := Lib.hid (Ra11.out.later hb12); have Rb12 := Lib.hid (Rb11.out.later hb12); have Rc12 := Lib.hid (Rc11.out.later hb12); have Rd12 := Lib.hid (Rd11.out.later hb12); clear hb12 B11 Ra11 Rb11 Rc11 Rd11
      go_wp2_with fail
      refine (HK0.out _ Ra12.out).mono ?_; rintro e w13 ⟨rfl, hb13⟩
      have B13 := Lib.hid (below_step B12.out hb13); have Ra13 := Lib.hid (Ra12.out.later hb13); have Rb13 := Lib.hid (Rb12.out.later hb13); have Rc13 := Lib.hid (Rc12.out.later hb13); have Rd13 := Lib.hid (Rd12.out.later hb13); clear hb13 B12 Ra12 Rb12 Rc12 Rd12
      go_wp2_with fail
      refine (HK1.out _ Rb13.out).mono ?_; rintro e w14 ⟨rfl, hb14⟩
      have B14 := Lib.hid (below_step B13.out hb14); have Ra14 := Lib.hid (Ra13.out.later hb14); have Rb14 := Lib.hid (Rb13.out.later hb14); have Rc14 := Lib.hid (Rc13.out.later hb14); have Rd14 := Lib.hid (Rd13.out.later hb14); clear hb14 B13 Ra13 Rb13 Rc13 Rd13
      go_wp2_with fail
      refine (HW0.out _ Ra14.out).mono ?_; rintro e w15 ⟨rfl, hb15⟩
      have B15 := Lib.hid (below_step B14.out hb15); have Ra15 := Lib.hid (Ra14.out.later hb15); have Rb15 := Lib.hid (Rb14.out.later hb15); have Rc15 := Lib.hid (Rc14.out.later hb15); have Rd15 := Lib.hid (Rd14.out.later hb15); clear hb15 B14 Ra14 Rb14 Rc14 Rd14
      go_wp2_with fail
      refine (HW1.out _ Rb15.out).mono ?_; rintro e w16 ⟨rfl, hb16⟩
      have B16 := Lib.hid (below_step B15.out hb16); have Ra16 := Lib.hid (Ra15.out.later hb16); have Rb16 := Lib.hid (Rb15.out.later hb16); have Rc16 := Lib.hid (Rc15.out.later hb16); have Rd16 := Lib.hid (Rd15.out.later hb16); clear hb16 B15 Ra15 Rb15 Rc15 Rd15
      go_wp2_with fail
      refine (HAB.out _ Ra16.out Rb16.out).mono ?_; rintro e w17 ⟨rfl, hb17⟩
      have B17 := Lib.hid (below_step B16.out hb17); have Ra17 := Lib.hid (Ra16.out.later hb17); have Rb17 := Lib.hid (Rb16.out.later hb17); have Rc17 := Lib.hid (Rc16.out.later hb17); have Rd17 := Lib.hid (Rd16.out.later hb17); clear hb17 B16 Ra16 Rb16 Rc16 Rd16
      go_wp2_with fail
      refine (HBA.out _ Rb17.out Ra17.out).mono ?_; rintro e w18 ⟨rfl, hb18⟩
      have B18 := Lib.hid (below_step B17.out hb18); have Ra18 := Lib.hid (Ra17.out.later hb18); have Rb18 := Lib.hid (Rb17.out.later hb18); have Rc18 := Lib.hid (Rc17.out.later hb18); have Rd18 := Lib.hid (Rd17.out.later hb18); clear hb18 B17 Ra17 Rb17 Rc17 Rd17
      go_wp2_with fail
      go_ret
      exact ⟨rfl, B18.out⟩
  · have heq := hsm.1 rfl
    have k1 := kin2.2 heq
    have s1 := sin2.2 heq
    clear kin2 sin2 tri asy1 asy2 hsm heq HAB HBA
    subst k1; subst s1
    have q1 : (K0.toList == K0.toList) = true := by simp
    have q2 : (S0.toList == S0.toList) = true := by simp
    go_enter Try.func6, Try.ntmps6
    go_wp2_with fail
    refine (works_any _ gm hgm).mono ?_; rintro e w1 ⟨rfl, hb1⟩
    have B1 := Lib.hid (below_step B0.out hb1); have Ra1 := Lib.hid (Ra0.out.later hb1); have Rb1 := Lib.hid (Rb0.out.later hb1); clear hb1 B0 Ra0 Rb0
    go_wp2_with fail
    refine (Few_any A0 n0 c0 hn0 f0 _ Ra1.out).mono ?_; rintro e w2 ⟨rfl, hb2⟩
    have B2 := Lib.hid (below_step B1.out hb2); have Ra2 := Lib.hid (Ra1.out.later hb2); have Rb2 := Lib.hid (Rb1.out.later hb2); clear hb2 B1 Ra1 Rb1
    rw [H0.out]
    go_wp2_with fail
    refine (Few_any A1 n1 c1 hn1 f1 _ Rb2.out).mono ?_; rintro e w3 ⟨rfl, hb3⟩
    have B3 := Lib.hid (below_step B2.out hb3); have Ra3 := Lib.hid (Ra2.out.later hb3); have Rb3 := Lib.hid (Rb2.out.later hb3); clear hb3 B2 Ra2 Rb2
    rw [H1.out]
    go_wp2_with fail
    refine (HC0.out _ Ra3.out).mono ?_; rintro e w4 ⟨rfl, hb4⟩
    have B4 := Lib.hid (below_step B3.out hb4); have Ra4 := Lib.hid (Ra3.out.later hb4); have Rb4 := Lib.hid (Rb3.out.later hb4); clear hb4 B3 Ra3 Rb3
    go_wp2_with fail
    refine (HK0.out _ Ra4.out).mono ?_; rintro e w5 ⟨rfl, hb5⟩
    have B5 := Lib.hid (below_step B4.out hb5); have Ra5 := Lib.hid (Ra4.out.later hb5); have Rb5 := Lib.hid (Rb4.out.later hb5); clear hb5 B4 Ra4 Rb4
    go_wp2_with fail
    refine (HO0.out _).mono ?_; rintro e w6 ⟨⟨Ax, cx, rfl, hx⟩, hb6⟩
    have B6 := Lib.hid (below_step B5.out hb6); have Ra6 := Lib.hid (Ra5.out.later hb6); have Rb6 := Lib.hid (Rb5.out.later hb6); clear hb6 B5 Ra5 Rb5
    have Rc6 := Lib.hid hx; clear hx
    go_wp2_with fail
    refine (HW0.out _ Ra6.out).mono ?_; rintro e w7 ⟨rfl, hb7⟩
    have B7 := Lib.hid (below_step B6.out hb7); have Ra7 := Lib.hid (Ra6.out.later hb7); have Rb7 := Lib.hid (Rb6.out.later hb7); have Rc7 := Lib.hid (Rc6.out.later hb7); clear hb7 B6 Ra6 Rb6 Rc6
    go_wp2_with fail
    refine (HR0.out _ B7.out).mono ?_; rintro e w8 ⟨⟨Ay, cy, rfl, hy⟩, hb8⟩
    have B8 := Lib.hid (below_step B7.out hb8); have Ra8 := Lib.hid (Ra7.out.later hb8); have Rb8 := Lib.hid (Rb7.out.later hb8); have Rc8 := Lib.hid (Rc7.out.later hb8); clear hb8 B7 Ra7 Rb7 Rc7
    have Rd8 := Lib.hid hy; clear hy
    go_wp2_with fail
    refine (HX.out _ _ _ Rc8.out Ra8.out).mono ?_; rintro e w9 ⟨rfl, hb9⟩
    have B9 := Lib.hid (below_step B8.out hb9); have Ra9 := Lib.hid (Ra8.out.later hb9); have Rb9 := Lib.hid (Rb8.out.later hb9); have Rc9 := Lib.hid (Rc8.out.later hb9); have Rd9 := Lib.hid (Rd8.out.later hb9); clear hb9 B8 Ra8 Rb8 Rc8 Rd8
    go_wp2_with fail
    refine (HX.out _ _ _ Rd9.out Ra9.out).mono ?_; rintro e w10 ⟨rfl, hb10⟩
    have B10 := Lib.hid (below_step B9.out hb10); have Ra10 := Lib.hid (Ra9.out.later hb10); have Rb10 := Lib.hid (Rb9.out.later hb10); have Rc10 := Lib.hid (Rc9.out.later hb10); have Rd10 := Lib.hid (Rd9.out.later hb10); clear hb10 B9 Ra9 Rb9 Rc9 Rd9
    go_wp2_with fail
    refine (HC1.out _ Rb10.out).mono ?_; rintro e w11 ⟨rfl, hb11⟩
    have B11 := Lib.hid (below_step B10.out hb11); have Ra11 := Lib.hid (Ra10.out.later hb11); have Rb11 := Lib.hid (Rb10.out.later hb11); have Rc11 := Lib.hid (Rc10.out.later hb11); have Rd11 := Lib.hid (Rd10.out.later hb11); clear hb11 B10 Ra10 Rb10 Rc10 Rd10
    go_wp2_with fail
    refine (HSM.out _ Ra11.out Rb11.out).mono ?_; rintro e w12 ⟨rfl, hb12⟩
    have B12 := Lib.hid (below_step B11.out hb12); have Ra12 := Lib.hid (Ra11.out.later hb12); have Rb12 := Lib.hid (Rb11.out.later hb12); have Rc12 := Lib.hid (Rc11.out.later hb12); have Rd12 := Lib.hid (Rd11.out.later hb12); clear hb12 B11 Ra11 Rb11 Rc11 Rd11
    go_wp2_with fail
    refine (HK0.out _ Ra12.out).mono ?_; rintro e w13 ⟨rfl, hb13⟩
    have B13 := Lib.hid (below_step B12.out hb13); have Ra13 := Lib.hid (Ra12.out.later hb13); have Rb13 := Lib.hid (Rb12.out.later hb13); have Rc13 := Lib.hid (Rc12.out.later hb13); have Rd13 := Lib.hid (Rd12.out.later hb13); clear hb13 B12 Ra12 Rb12 Rc12 Rd12
    go_wp2_with fail
    refine (HK1.out _ Rb13.out).mono ?_; rintro e w14 ⟨rfl, hb14⟩
    have B14 := Lib.hid (below_step B13.out hb14); have Ra14 := Lib.hid (Ra13.out.later hb14); have Rb14 := Lib.hid (Rb13.out.later hb14); have Rc14 := Lib.hid (Rc13.out.later hb14); have Rd14 := Lib.hid (Rd13.out.later hb14); clear hb14 B13 Ra13 Rb13 Rc13 Rd13
    go_wp2_with fail
    refine (HW0.out _ Ra14.out).mono ?_; rintro e w15 ⟨rfl, hb15⟩
    have B15 := Lib.hid (below_step B14.out hb15); have Ra15 := Lib.hid (Ra14.out.later hb15); have Rb15 := Lib.hid (Rb14.out.later hb15); have Rc15 := Lib.hid (Rc14.out.later hb15); have Rd15 := Lib.hid (Rd14.out.later hb15); clear hb15 B14 Ra14 Rb14 Rc14 Rd14
    go_wp2_with fail
    refine (HW1.out _ Rb15.out).mono ?_; rintro e w16 ⟨rfl, hb16⟩
    have B16 := Lib.hid (below_step B15.out hb16); have Ra16 := Lib.hid (Ra15.out.later hb16); have Rb16 := Lib.hid (Rb15.out.later hb16); have Rc16 := Lib.hid (Rc15.out.later hb16); have Rd16 := Lib.hid (Rd15.out.later hb16); clear hb16 B15 Ra15 Rb15 Rc15 Rd15
    go_wp2_with fail
    go_ret
    exact ⟨rfl, B16.out⟩
end Go.Proofs.Ytieoncjdhileoaa
