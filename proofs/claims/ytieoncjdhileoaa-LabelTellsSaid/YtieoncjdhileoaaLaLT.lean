/-
  LabelTells: the walk of the law.
-/
import Derived.Test.YtieoncjdhileoaaLaY
import Derived.Test.YtieoncjdhileoaaLaZ
namespace Go.Proofs.Ytieoncjdhileoaa
open Go.RowKit

set_option maxRecDepth 100000 in
set_option maxHeartbeats 2000000 in
theorem labelTells_walk (w : World) (gm : Int) (hgm : w.cell? ⟨0, 0, none⟩ = some (.int .i64 gm)) (A0 : Option Addr) (n0 c0 : Nat) (f0 : Nat → Lab) (hn0 : n0 ≤ maxLen) (hz0 : ∀ i, i < n0 → (f0 i).1.size ≤ maxLen ∧ (f0 i).2.size ≤ maxLen) (hl0 : LabRow w A0 n0 f0) (_hx0 : A0 = none → n0 = 0 ∧ c0 = 0) (_hq0 : n0 ≤ c0) (gen : Int) (_hg : (Lit.int .i64 gen).wf = true) (nam : ByteArray) (_hnam : nam.size ≤ maxLen) :
    Calls Try.prog 3 #[.slice A0 n0 c0, .int .i64 gen, .string nam] w fun e w' => e = .returned (.bool true) ∧ Below w.heap.size w w' := by
  have Ra0 := Lib.hid hl0; have B0 := Lib.hid (Below.refl w.heap.size w); clear hl0
  cases hf : La.few f0 n0
  · go_enter Try.func3, Try.ntmps3
    go_wp2_with fail
    refine (works_any _ gm hgm).mono ?_; rintro e w1 ⟨rfl, hb1⟩
    have B1 := Lib.hid (below_step B0.out hb1); have Ra1 := Lib.hid (Ra0.out.later hb1); clear hb1 B0 Ra0
    go_wp2_with fail
    refine (Few_any A0 n0 c0 hn0 f0 _ Ra1.out).mono ?_; rintro e w2 ⟨rfl, hb2⟩
    have B2 := Lib.hid (below_step B1.out hb2); have Ra2 := Lib.hid (Ra1.out.later hb2); clear hb2 B1 Ra1
    rw [hf]
    go_wp2_with fail
    go_ret
    exact ⟨rfl, B2.out⟩
  obtain ⟨hF0, hS0⟩ := La.few_yes hf
  have H0 := Lib.hid hf; clear hf
  have hRR := fun W (hW : LabRow W A0 n0 f0) => rRight_any A0 n0 c0 hn0 f0 hz0 W hW
  have hCC := fun W (hW : LabRow W A0 n0 f0) => Check_any A0 n0 c0 hn0 f0 hz0 W hW
  have hLI := fun W => Limit_any gen W
  have hRI := fun W => rLimit_any gen W
  have hLO := fun W (hW : LabRow W A0 n0 f0) => Longest_any A0 n0 c0 hn0 f0 hz0 W hW
  have hRO := fun W (hW : LabRow W A0 n0 f0) => rLongest_any A0 n0 c0 hn0 f0 hz0 W hW
  have hKK := fun W (hW : LabRow W A0 n0 f0) => Key_any A0 n0 c0 (by omega) f0 hS0 W hW
  have hRK := fun W (hW : LabRow W A0 n0 f0) => rKey_any A0 n0 c0 hF0 f0 hS0 W hW
  have hSS := fun W (hW : LabRow W A0 n0 f0) => Show_any A0 n0 c0 (by omega) f0 hS0 W hW
  have hRS := fun W (hW : LabRow W A0 n0 f0) => rShow_any A0 n0 c0 hF0 f0 hS0 W hW
  have hGG := fun W (hW : LabRow W A0 n0 f0) => Get_any A0 n0 c0 hn0 f0 nam W hW
  have hRG := fun W (hW : LabRow W A0 n0 f0) => rGet_any' A0 n0 c0 hn0 f0 nam W hW
  clear hz0 hS0
  generalize La.right f0 n0 = br at *
  generalize La.limit gen = lm at *
  generalize La.longest f0 n0 = lo at *
  generalize La.keyB f0 n0 = K0 at *
  generalize La.showB f0 n0 = S0 at *
  generalize La.get f0 nam n0 0 = G0 at *
  have HRR := Lib.hid hRR; clear hRR
  have HCC := Lib.hid hCC; clear hCC
  have HLI := Lib.hid hLI; clear hLI
  have HRI := Lib.hid hRI; clear hRI
  have HLO := Lib.hid hLO; clear hLO
  have HRO := Lib.hid hRO; clear hRO
  have HKK := Lib.hid hKK; clear hKK
  have HRK := Lib.hid hRK; clear hRK
  have HSS := Lib.hid hSS; clear hSS
  have HRS := Lib.hid hRS; clear hRS
  have HGG := Lib.hid hGG; clear hGG
  have HRG := Lib.hid hRG; clear hRG
  have e1 : (((La.err true : Nat) : Int) == 0) = true := by decide
  have e2 : (((La.err false : Nat) : Int) == 2) = true := by decide
  cases br
  all_goals
    go_enter Try.func3, Try.ntmps3
    go_wp2_with fail
    refine (works_any _ gm hgm).mono ?_; rintro e w1 ⟨rfl, hb1⟩
    have B1 := Lib.hid (below_step B0.out hb1); have Ra1 := Lib.hid (Ra0.out.later hb1); clear hb1 B0 Ra0
    go_wp2_with fail
    refine (Few_any A0 n0 c0 hn0 f0 _ Ra1.out).mono ?_; rintro e w2 ⟨rfl, hb2⟩
    have B2 := Lib.hid (below_step B1.out hb2); have Ra2 := Lib.hid (Ra1.out.later hb2); clear hb2 B1 Ra1
    rw [H0.out]
    go_wp2_with fail
    refine (HRR.out _ Ra2.out).mono ?_; rintro e w3 ⟨rfl, hb3⟩
    have B3 := Lib.hid (below_step B2.out hb3); have Ra3 := Lib.hid (Ra2.out.later hb3); clear hb3 B2 Ra2
    go_wp2_with fail
    refine (HCC.out _ Ra3.out).mono ?_; rintro e w4 ⟨rfl, hb4⟩
    have B4 := Lib.hid (below_step B3.out hb4); have Ra4 := Lib.hid (Ra3.out.later hb4); clear hb4 B3 Ra3
    go_wp2_with fail
    refine (HLI.out _).mono ?_; rintro e wx ⟨rfl, rfl⟩
    go_wp2_with fail
    refine (HRI.out _).mono ?_; rintro e wx ⟨rfl, rfl⟩
    go_wp2_with fail
    refine (HLO.out _ Ra4.out).mono ?_; rintro e w5 ⟨rfl, hb5⟩
    have B5 := Lib.hid (below_step B4.out hb5); have Ra5 := Lib.hid (Ra4.out.later hb5); clear hb5 B4 Ra4
    go_wp2_with fail
    refine (HRO.out _ Ra5.out).mono ?_; rintro e w6 ⟨rfl, hb6⟩
    have B6 := Lib.hid (below_step B5.out hb6); have Ra6 := Lib.hid (Ra5.out.later hb6); clear hb6 B5 Ra5
    go_wp2_with fail
    refine (HKK.out _ Ra6.out).mono ?_; rintro e w7 ⟨rfl, hb7⟩
    have B7 := Lib.hid (below_step B6.out hb7); have Ra7 := Lib.hid (Ra6.out.later hb7); clear hb7 B6 Ra6
    go_wp2_with fail
    refine (HRK.out _ Ra7.out).mono ?_; rintro e w8 ⟨rfl, hb8⟩
    have B8 := Lib.hid (below_step B7.out hb8); have Ra8 := Lib.hid (Ra7.out.later hb8); clear hb8 B7 Ra7
    go_wp2_with fail
    refine (HSS.out _ Ra8.out).mono ?_; rintro e w9 ⟨rfl, hb9⟩
    have B9 := Lib.hid (below_step B8.out hb9); have Ra9 := Lib.hid (Ra8.out.later hb9); clear hb9 B8 Ra8
    go_wp2_with fail
    refine (HRS.out _ Ra9.out).mono ?_; rintro e w10 ⟨rfl, hb10⟩
    have B10 := Lib.hid (below_step B9.out hb10); have Ra10 := Lib.hid (Ra9.out.later hb10); clear hb10 B9 Ra9
    go_wp2_with fail
    refine (HGG.out _ Ra10.out).mono ?_; rintro e w11 ⟨rfl, hb11⟩
    have B11 := Lib.hid (below_step B10.out hb11); have Ra11 := Lib.hid (Ra10.out.later hb11); clear hb11 B10 Ra10
    go_wp2_with fail
    refine (HRG.out _ Ra11.out).mono ?_; rintro e w12 ⟨rfl, hb12⟩
    have B12 := Lib.hid (below_step B11.out hb12); have Ra12 := Lib.hid (Ra11.out.later hb12); clear hb12 B11 Ra11
    go_wp2_with fail
    go_ret
    exact ⟨rfl, B12.out⟩
end Go.Proofs.Ytieoncjdhileoaa
