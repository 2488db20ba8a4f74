/-
  LabelLimits: the walk of the law.
-/
import Derived.Test.YtieoncjdhileoaaLaM
namespace Go.Proofs.Ytieoncjdhileoaa
open Go.RowKit

set_option maxRecDepth 100000 in
set_option maxHeartbeats 2000000 in
theorem labelLimits_walk (w : World) (gm : Int) (hgm : w.cell? ⟨0, 0, none⟩ = some (.int .i64 gm)) (a : Int) (_ha : (Lit.int .i64 a).wf = true) (b : Int) (_hb : (Lit.int .i64 b).wf = true) (A0 : Option Addr) (n0 c0 : Nat) (f0 : Nat → Lab) (hn0 : n0 ≤ maxLen) (hz0 : ∀ i, i < n0 → (f0 i).1.size ≤ maxLen ∧ (f0 i).2.size ≤ maxLen) (hl0 : LabRow w A0 n0 f0) (_hx0 : A0 = none → n0 = 0 ∧ c0 = 0) (_hq0 : n0 ≤ c0) :
    Calls Try.prog 10 #[.int .i64 a, .int .i64 b, .slice A0 n0 c0] w fun e w' => e = .returned (.bool true) ∧ Below w.heap.size w w' := by
  have Ra0 := Lib.hid hl0; have B0 := Lib.hid (Below.refl w.heap.size w); clear hl0
  cases hfew : La.few f0 n0
  · go_enter Try.func10, Try.ntmps10
    go_wp2_with fail
    refine (works_any _ gm hgm).mono ?_; rintro e w1 ⟨rfl, hb1⟩
    have B1 := Lib.hid (below_step B0.out hb1); have Ra1 := Lib.hid (Ra0.out.later hb1); clear hb1 B0 Ra0
    go_wp2_with fail
    refine (Few_any A0 n0 c0 hn0 f0 _ Ra1.out).mono ?_; rintro e w2 ⟨rfl, hb2⟩
    have B2 := Lib.hid (below_step B1.out hb2); have Ra2 := Lib.hid (Ra1.out.later hb2); clear hb2 B1 Ra1
    rw [hfew]
    go_wp2_with fail
    go_ret
    exact ⟨rfl, B2.out⟩
  · obtain ⟨hn10, hs3⟩ := La.few_yes hfew
    have hway : (decide (1 ≤ a) = false) ∨ (decide (1 ≤ a) = true ∧ decide (b ≤ 3) = false) ∨ (decide (1 ≤ a) = true ∧ decide (b ≤ 3) = true ∧ decide (b ≤ a) = true) ∨ (decide (1 ≤ a) = true ∧ decide (b ≤ 3) = true ∧ decide (b ≤ a) = false ∧ La.limit a < La.limit b) := by
      by_cases h1 : 1 ≤ a
      · by_cases h2 : b ≤ 3
        · by_cases h3 : b ≤ a
          · exact .inr (.inr (.inl ⟨decide_eq_true h1, decide_eq_true h2, decide_eq_true h3⟩))
          · exact .inr (.inr (.inr ⟨decide_eq_true h1, decide_eq_true h2, decide_eq_false h3, La.limit_lt a b h1 h2 (by omega)⟩))
        · exact .inr (.inl ⟨decide_eq_true h1, decide_eq_false h2⟩)
      · exact .inl (decide_eq_false h1)
    have HZ := Lib.hid hz0; have HF := Lib.hid hfew; clear hz0 hs3 hfew
    cases hr : La.right f0 n0
    · have e1 : (((La.err false : Nat) : Int) != 0) = true := by decide
      rcases hway with d1 | ⟨d1, d2⟩ | ⟨d1, d2, d3⟩ | ⟨d1, d2, d3, d4⟩
      · go_enter Try.func10, Try.ntmps10
        go_wp2_with fail
        refine (works_any _ gm hgm).mono ?_; rintro e w1 ⟨rfl, hb1⟩
        have B1 := Lib.hid (below_step B0.out hb1); have Ra1 := Lib.hid (Ra0.out.later hb1); clear hb1 B0 Ra0
        go_wp2_with fail
        refine (Few_any A0 n0 c0 hn0 f0 _ Ra1.out).mono ?_; rintro e w2 ⟨rfl, hb2⟩
        have B2 := Lib.hid (below_step B1.out hb2); have Ra2 := Lib.hid (Ra1.out.later hb2); clear hb2 B1 Ra1
        rw [HF.out]
        go_wp2_with fail
        refine (Check_any A0 n0 c0 hn0 f0 HZ.out _ Ra2.out).mono ?_; rintro e w3 ⟨rfl, hb3⟩
        have B3 := Lib.hid (below_step B2.out hb3); have Ra3 := Lib.hid (Ra2.out.later hb3); clear hb3 B2 Ra2
        rw [hr]
        go_wp2_with fail
        go_ret
        exact ⟨rfl, B3.out⟩
      · go_enter Try.func10, Try.ntmps10
        go_wp2_with fail
        refine (works_any _ gm hgm).mono ?_; rintro e w1 ⟨rfl, hb1⟩
        have B1 := Lib.hid (below_step B0.out hb1); have Ra1 := Lib.hid (Ra0.out.later hb1); clear hb1 B0 Ra0
        go_wp2_with fail
        refine (Few_any A0 n0 c0 hn0 f0 _ Ra1.out).mono ?_; rintro e w2 ⟨rfl, hb2⟩
        have B2 := Lib.hid (below_step B1.out hb2); have Ra2 := Lib.hid (Ra1.out.later hb2); clear hb2 B1 Ra1
        rw [HF.out]
        go_wp2_with fail
        refine (Check_any A0 n0 c0 hn0 f0 HZ.out _ Ra2.out).mono ?_; rintro e w3 ⟨rfl, hb3⟩
        have B3 := Lib.hid (below_step B2.out hb3); have Ra3 := Lib.hid (Ra2.out.later hb3); clear hb3 B2 Ra2
        rw [hr]
        go_wp2_with fail
        go_ret
        exact ⟨rfl, B3.out⟩
      · go_enter Try.func10, Try.ntmps10
        go_wp2_with fail
        refine (works_any _ gm hgm).mono ?_; rintro e w1 ⟨rfl, hb1⟩
        have B1 := Lib.hid (below_step B0.out hb1); have Ra1 := Lib.hid (Ra0.out.later hb1); clear hb1 B0 Ra0
        go_wp2_with fail
        refine (Few_any A0 n0 c0 hn0 f0 _ Ra1.out).mono ?_; rintro e w2 ⟨rfl, hb2⟩
        have B2 := Lib.hid (below_step B1.out hb2); have Ra2 := Lib.hid (Ra1.out.later hb2); clear hb2 B1 Ra1
        rw [HF.out]
        go_wp2_with fail
        refine (Check_any A0 n0 c0 hn0 f0 HZ.out _ Ra2.out).mono ?_; rintro e w3 ⟨rfl, hb3⟩
        have B3 := Lib.hid (below_step B2.out hb3); have Ra3 := Lib.hid (Ra2.out.later hb3); clear hb3 B2 Ra2
        rw [hr]
        go_wp2_with fail
        go_ret
        exact ⟨rfl, B3.out⟩
      · go_enter Try.func10, Try.ntmps10
        go_wp2_with fail
        refine (works_any _ gm hgm).mono ?_; rintro e w1 ⟨rfl, hb1⟩
        have B1 := Lib.hid (below_step B0.out hb1); have Ra1 := Lib.hid (Ra0.out.later hb1); clear hb1 B0 Ra0
        go_wp2_with fail
        refine (Few_any A0 n0 c0 hn0 f0 _ Ra1.out).mono ?_; rintro e w2 ⟨rfl, hb2⟩
        have B2 := Lib.hid (below_step B1.out hb2); have Ra2 := Lib.hid (Ra1.out.later hb2); clear hb2 B1 Ra1
        rw [HF.out]
        go_wp2_with fail
        refine (Limit_any a _).mono ?_; rintro e wx ⟨rfl, rfl⟩
        go_wp2_with fail
        refine (Limit_any b _).mono ?_; rintro e wx ⟨rfl, rfl⟩
        go_wp2_with fail
        refine (Check_any A0 n0 c0 hn0 f0 HZ.out _ Ra2.out).mono ?_; rintro e w3 ⟨rfl, hb3⟩
        have B3 := Lib.hid (below_step B2.out hb3); have Ra3 := Lib.hid (Ra2.out.later hb3); clear hb3 B2 Ra2
        rw [hr]
        go_wp2_with fail
        go_ret
        exact ⟨rfl, B3.out⟩
    · have e1 : (((La.err true : Nat) : Int) != 0) = false := by decide
      obtain ⟨hl1, hl2⟩ := La.right_longest hr
      have e2 : decide (((La.longest f0 n0 : Nat) : Int) ≤ ((48 : Nat) : Int)) = true := by simp; omega
      have e3 : decide ((0 : Int) < ((La.longest f0 n0 : Nat) : Int)) = true := by simp; omega
      have hlg := fun W (hW : LabRow W A0 n0 f0) => Longest_any A0 n0 c0 hn0 f0 HZ.out W hW
      generalize La.longest f0 n0 = lo at *
      have HLG := Lib.hid hlg; clear hlg
      rcases hway with d1 | ⟨d1, d2⟩ | ⟨d1, d2, d3⟩ | ⟨d1, d2, d3, d4⟩
      · go_enter Try.func10, Try.ntmps10
        go_wp2_with fail
        refine (works_any _ gm hgm).mono ?_; rintro e w1 ⟨rfl, hb1⟩
        have B1 := Lib.hid (below_step B0.out hb1); have Ra1 := Lib.hid (Ra0.out.later hb1); clear hb1 B0 Ra0
        go_wp2_with fail
        refine (Few_any A0 n0 c0 hn0 f0 _ Ra1.out).mono ?_; rintro e w2 ⟨rfl, hb2⟩
        have B2 := Lib.hid (below_step B1.out hb2); have Ra2 := Lib.hid (Ra1.out.later hb2); clear hb2 B1 Ra1
        rw [HF.out]
        go_wp2_with fail
        refine (Check_any A0 n0 c0 hn0 f0 HZ.out _ Ra2.out).mono ?_; rintro e w3 ⟨rfl, hb3⟩
        have B3 := Lib.hid (below_step B2.out hb3); have Ra3 := Lib.hid (Ra2.out.later hb3); clear hb3 B2 Ra2
        rw [hr]
        go_wp2_with fail
        refine (HLG.out _ Ra3.out).mono ?_; rintro e w4 ⟨rfl, hb4⟩
        have B4 := Lib.hid (below_step B3.out hb4); have Ra4 := Lib.hid (Ra3.out.later hb4); clear hb4 B3 Ra3
        go_wp2_with fail
        refine (Limit_any 3 _).mono ?_; rintro e wx ⟨rfl, rfl⟩
        rw [show La.limit 3 = 48 from rfl]
        go_wp2_with fail
        refine (HLG.out _ Ra4.out).mono ?_; rintro e w5 ⟨rfl, hb5⟩
        have B5 := Lib.hid (below_step B4.out hb5); have Ra5 := Lib.hid (Ra4.out.later hb5); clear hb5 B4 Ra4
        go_wp2_with fail
        go_ret
        exact ⟨rfl, B5.out⟩
      · go_enter Try.func10, Try.ntmps10
        go_wp2_with fail
        refine (works_any _ gm hgm).mono ?_; rintro e w1 ⟨rfl, hb1⟩
        have B1 := Lib.hid (below_step B0.out hb1); have Ra1 := Lib.hid (Ra0.out.later hb1); clear hb1 B0 Ra0
        go_wp2_with fail
        refine (Few_any A0 n0 c0 hn0 f0 _ Ra1.out).mono ?_; rintro e w2 ⟨rfl, hb2⟩
        have B2 := Lib.hid (below_step B1.out hb2); have Ra2 := Lib.hid (Ra1.out.later hb2); clear hb2 B1 Ra1
        rw [HF.out]
        go_wp2_with fail
        refine (Check_any A0 n0 c0 hn0 f0 HZ.out _ Ra2.out).mono ?_; rintro e w3 ⟨rfl, hb3⟩
        have B3 := Lib.hid (below_step B2.out hb3); have Ra3 := Lib.hid (Ra2.out.later hb3); clear hb3 B2 Ra2
        rw [hr]
        go_wp2_with fail
        refine (HLG.out _ Ra3.out).mono ?_; rintro e w4 ⟨rfl, hb4⟩
        have B4 := Lib.hid (below_step B3.out hb4); have Ra4 := Lib.hid (Ra3.out.later hb4); clear hb4 B3 Ra3
        go_wp2_with fail
        refine (Limit_any 3 _).mono ?_; rintro e wx ⟨rfl, rfl⟩
        rw [show La.limit 3 = 48 from rfl]
        go_wp2_with fail
        refine (HLG.out _ Ra4.out).mono ?_; rintro e w5 ⟨rfl, hb5⟩
        have B5 := Lib.hid (below_step B4.out hb5); have Ra5 := Lib.hid (Ra4.out.later hb5); clear hb5 B4 Ra4
        go_wp2_with fail
        go_ret
        exact ⟨rfl, B5.out⟩
      · go_enter Try.func10, Try.ntmps10
        go_wp2_with fail
        refine (works_any _ gm hgm).mono ?_; rintro e w1 ⟨rfl, hb1⟩
        have B1 := Lib.hid (below_step B0.out hb1); have Ra1 := Lib.hid (Ra0.out.later hb1); clear hb1 B0 Ra0
        go_wp2_with fail
        refine (Few_any A0 n0 c0 hn0 f0 _ Ra1.out).mono ?_; rintro e w2 ⟨rfl, hb2⟩
        have B2 := Lib.hid (below_step B1.out hb2); have Ra2 := Lib.hid (Ra1.out.later hb2); clear hb2 B1 Ra1
        rw [HF.out]
        go_wp2_with fail
        refine (Check_any A0 n0 c0 hn0 f0 HZ.out _ Ra2.out).mono ?_; rintro e w3 ⟨rfl, hb3⟩
        have B3 := Lib.hid (below_step B2.out hb3); have Ra3 := Lib.hid (Ra2.out.later hb3); clear hb3 B2 Ra2
        rw [hr]
        go_wp2_with fail
        refine (HLG.out _ Ra3.out).mono ?_; rintro e w4 ⟨rfl, hb4⟩
        have B4 := Lib.hid (below_step B3.out hb4); have Ra4 := Lib.hid (Ra3.out.later hb4); clear hb4 B3 Ra3
        go_wp2_with fail
        refine (Limit_any 3 _).mono ?_; rintro e wx ⟨rfl, rfl⟩
        rw [show La.limit 3 = 48 from rfl]
        go_wp2_with fail
        refine (HLG.out _ Ra4.out).mono ?_; rintro e w5 ⟨rfl, hb5⟩
        have B5 := Lib.hid (below_step B4.out hb5); have Ra5 := Lib.hid (Ra4.out.later hb5); clear hb5 B4 Ra4
        go_wp2_with fail
        go_ret
        exact ⟨rfl, B5.out⟩
      · go_enter Try.func10, Try.ntmps10
        go_wp2_with fail
        refine (works_any _ gm hgm).mono ?_; rintro e w1 ⟨rfl, hb1⟩
        have B1 := Lib.hid (below_step B0.out hb1); have Ra1 := Lib.hid (Ra0.out.later hb1); clear hb1 B0 Ra0
        go_wp2_with fail
        refine (Few_any A0 n0 c0 hn0 f0 _ Ra1.out).mono ?_; rintro e w2 ⟨rfl, hb2⟩
        have B2 := Lib.hid (below_step B1.out hb2); have Ra2 := Lib.hid (Ra1.out.later hb2); clear hb2 B1 Ra1
        rw [HF.out]
        go_wp2_with fail
        refine (Limit_any a _).mono ?_; rintro e wx ⟨rfl, rfl⟩
        go_wp2_with fail
        refine (Limit_any b _).mono ?_; rintro e wx ⟨rfl, rfl⟩
        go_wp2_with fail
        refine (Check_any A0 n0 c0 hn0 f0 HZ.out _ Ra2.out).mono ?_; rintro e w3 ⟨rfl, hb3⟩
        have B3 := Lib.hid (below_step B2.out hb3); have Ra3 := Lib.hid (Ra2.out.later hb3); clear hb3 B2 Ra2
        rw [hr]
        go_wp2_with fail
        refine (HLG.out _ Ra3.out).mono ?_; rintro e w4 ⟨rfl, hb4⟩
        have B4 := Lib.hid (below_step B3.out hb4); have Ra4 := Lib.hid (Ra3.out.later hb4); clear hb4 B3 Ra3
        go_wp2_with fail
        refine (Limit_any 3 _).mono ?_; rintro e wx ⟨rfl, rfl⟩
        rw [show La.limit 3 = 48 from rfl]
        go_wp2_with fail
        refine (HLG.out _ Ra4.out).mono ?_; rintro e w5 ⟨rfl, hb5⟩
        have B5 := Lib.hid (below_step B4.out hb5); have Ra5 := Lib.hid (Ra4.out.later hb5); clear hb5 B4 Ra4
        go_wp2_with fail
        go_ret
        exact ⟨rfl, B5.out⟩
end Go.Proofs.Ytieoncjdhileoaa
