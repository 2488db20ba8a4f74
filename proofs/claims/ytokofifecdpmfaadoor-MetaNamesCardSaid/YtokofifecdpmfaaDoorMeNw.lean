/-
  MetaNames: the walk of the law.
-/
import Derived.Test.YtokofifecdpmfaaDoorMeNm
namespace Go.Proofs.YtokofifecdpmfaaDoor
open Go.RowKit

set_option maxRecDepth 100000 in
set_option maxHeartbeats 1000000 in
theorem metaNames_walk (w : World) (hE : Env w) (kind : ByteArray) (_hk : kind.size ≤ maxLen) (n : Int) (_hn : (Lit.int .i64 n).wf = true) (name : ByteArray) (_hm : name.size ≤ maxLen) :
    Calls Tryd.prog 3 #[.string kind, .int .i64 n, .string name] w fun e w' => e = .returned (.bool true) ∧ Below w.heap.size w w' := by
  have HE := Lib.hid hE
  have HWK := Lib.hid (works_any w hE)
  clear hE
  by_cases hg : kind.size ≤ 600 ∧ name.size ≤ 600
  · obtain ⟨hl1, hl2⟩ := hg
    have d1 : decide ((600 : Int) < (kind.size : Int)) = false := by simp; omega
    have d2 : decide ((600 : Int) < (name.size : Int)) = false := by simp; omega
    have hp := fun W h => Parse_any name (by omega) W h
    have hr := fun W => rParse_any name (by omega) W
    rw [Me.rparse_eq] at hr
    have hnm := fun W h => Name_any kind (by omega) n W h
    have hrn := fun W => rName_any kind (by omega) n W
    have hnz : (Me.nameB kind n).size ≤ 1000 := by
      unfold Me.nameB
      split
      · rename_i h
        unfold Me.inName at h
        simp only [decide_eq_true_eq] at h
        rw [Me.ba_len, List.length_append, List.length_append, Me.pad_length n.toNat (by omega)]
        have : kind.data.toList.length = kind.size := by simp
        simp; omega
      · simp
    have hpn := fun W h => Parse_any (Me.nameB kind n) hnz W h
    obtain ⟨hq, hqt⟩ := Me.parse_of_name kind n
    have htemp := fun W => Temp_any name (by omega) W
    have hsum : ¬ 9223372036854775807 < 4 + name.size := by omega
    have q1 := Me.toList_iff kind [119, 97, 108]
    have q2 := Me.toList_iff kind [98, 108, 111, 99, 107]
    have hcase : (((kind.toList = [119, 97, 108] ∧ decide (0 ≤ n) = true ∧ decide (n ≤ 999999) = true) ∨ (¬ kind.toList = [119, 97, 108] ∧ kind.toList = [98, 108, 111, 99, 107] ∧ decide (0 ≤ n) = true ∧ decide (n ≤ 999999) = true)) ∧ Me.parse (Me.nameB kind n) = (kind, n, true)) ∨
        (((¬ kind.toList = [119, 97, 108] ∧ ¬ kind.toList = [98, 108, 111, 99, 107]) ∨ (kind.toList = [119, 97, 108] ∧ decide (0 ≤ n) = false) ∨ (¬ kind.toList = [119, 97, 108] ∧ kind.toList = [98, 108, 111, 99, 107] ∧ decide (0 ≤ n) = false) ∨ (kind.toList = [119, 97, 108] ∧ decide (0 ≤ n) = true ∧ decide (n ≤ 999999) = false) ∨ (¬ kind.toList = [119, 97, 108] ∧ kind.toList = [98, 108, 111, 99, 107] ∧ decide (0 ≤ n) = true ∧ decide (n ≤ 999999) = false)) ∧ (Me.parse (Me.nameB kind n)).2.2 = false) := by
      have hkk : (decide (kind = Me.wal ∨ kind = Me.block) = true) ↔ (kind.toList = [119, 97, 108] ∨ kind.toList = [98, 108, 111, 99, 107]) := by
        rw [decide_eq_true_eq, q1, q2]; rfl
      have hin : Me.inName n = true ↔ (0 ≤ n ∧ n ≤ 999999) := by unfold Me.inName; simp
      by_cases h1 : kind.toList = [119, 97, 108] <;> by_cases h2 : kind.toList = [98, 108, 111, 99, 107] <;> by_cases h3 : 0 ≤ n <;> by_cases h4 : n ≤ 999999
      all_goals
        first
        | (left
           refine ⟨?_, hqt (by rw [Bool.and_eq_true]; exact ⟨hkk.2 (by simp only [h1, h2]; simp), hin.2 ⟨h3, h4⟩⟩)⟩
           first
           | (left; exact ⟨h1, by simpa using h3, by simpa using h4⟩)
           | (right; exact ⟨h1, h2, by simpa using h3, by simpa using h4⟩))
        | (right
           refine ⟨?_, by
             rw [hq, Bool.and_eq_false_iff]
             first
             | (right; rw [← Bool.not_eq_true, hin]; omega)
             | (left; rw [← Bool.not_eq_true, hkk]; rintro (h | h) <;> first | exact h1 h | exact h2 h)⟩
           first
           | (left; exact ⟨h1, h2⟩)
           | (right; left; exact ⟨h1, by simpa using h3⟩)
           | (right; right; left; exact ⟨h1, h2, by simpa using h3⟩)
           | (right; right; right; left; exact ⟨h1, by simpa using h3, by simpa using h4⟩)
           | (right; right; right; right; exact ⟨h1, h2, by simpa using h3, by simpa using h4⟩))
    have HP := Lib.hid hp; have HR := Lib.hid hr; have HNM := Lib.hid hnm; have HRN := Lib.hid hrn; have HPN := Lib.hid hpn; have HT := Lib.hid htemp; have HC := Lib.hid hcase
    clear hp hr hnm hrn hpn htemp hcase hq hqt hnz q1 q2
    generalize (Me.parse name).1 = p1 at *
    generalize (Me.parse name).2.1 = p2 at *
    generalize (Me.parse name).2.2 = p3 at *
    generalize hQ : Me.parse (Me.nameB kind n) = Q at *
    clear hQ
    generalize Me.nameB kind n = nm at *
    rcases HC.out with ⟨hk, hQ⟩ | ⟨hk, hQ⟩
    · have hpn := HPN.out
      rw [hQ] at hpn
      have HPN2 := Lib.hid hpn
      clear hpn HPN HC hQ
      rcases hk with ⟨q1, r1, r2⟩ | ⟨q1, q2, r1, r2⟩
      all_goals
        go_enter Tryd.func3, Tryd.ntmps3
        go_wp2_with fail
        refine HWK.out.mono ?_; rintro e w2 ⟨rfl, hb2⟩
        have HB2 := Lib.hid hb2; have HE2 := Lib.hid (HE.out.later hb2); clear hb2
        go_wp2_with fail
        refine (HP.out _ HE2.out).mono ?_; rintro e w3 ⟨rfl, hb3⟩
        have HB3 := Lib.hid (below_step HB2.out hb3); have HE3 := Lib.hid (HE2.out.later hb3); clear hb3
        go_wp2_with fail
        refine (HR.out _).mono ?_; rintro e w4 ⟨rfl, hb4⟩
        have HB4 := Lib.hid (below_step HB3.out hb4); have HE4 := Lib.hid (HE3.out.later hb4); clear hb4
        go_wp2_with fail
        refine (HNM.out _ HE4.out).mono ?_; rintro e w5 ⟨rfl, hb5⟩
        have HB5 := Lib.hid (below_step HB4.out hb5); have HE5 := Lib.hid (HE4.out.later hb5); clear hb5
        go_wp2_with fail
        refine (HPN2.out _ HE5.out).mono ?_; rintro e w6 ⟨rfl, hb6⟩
        have HB6 := Lib.hid (below_step HB5.out hb6); have HE6 := Lib.hid (HE5.out.later hb6); clear hb6
        go_wp2_with fail
        refine (HNM.out _ HE6.out).mono ?_; rintro e w7 ⟨rfl, hb7⟩
        have HB7 := Lib.hid (below_step HB6.out hb7); clear hb7
        go_wp2_with fail
        refine (HRN.out _).mono ?_; rintro e w8 ⟨rfl, hb8⟩
        have HB8 := Lib.hid (below_step HB7.out hb8); clear hb8
        go_wp2_with fail
        refine (HT.out _).mono ?_; rintro e w9 ⟨rfl, rfl⟩
        go_wp2_with fail
        go_ret
        exact ⟨rfl, HB8.out⟩
    · have hpn := HPN.out
      rw [hQ] at hpn
      have HPN2 := Lib.hid hpn
      clear hpn HPN HC hQ
      generalize Q.1 = u1 at *
      generalize Q.2.1 = u2 at *
      rcases hk with ⟨q1, q2⟩ | ⟨q1, r1⟩ | ⟨q1, q2, r1⟩ | ⟨q1, r1, r2⟩ | ⟨q1, q2, r1, r2⟩
      all_goals
        go_enter Tryd.func3, Tryd.ntmps3
        go_wp2_with fail
        refine HWK.out.mono ?_; rintro e w2 ⟨rfl, hb2⟩
        have HB2 := Lib.hid hb2; have HE2 := Lib.hid (HE.out.later hb2); clear hb2
        go_wp2_with fail
        refine (HP.out _ HE2.out).mono ?_; rintro e w3 ⟨rfl, hb3⟩
        have HB3 := Lib.hid (below_step HB2.out hb3); have HE3 := Lib.hid (HE2.out.later hb3); clear hb3
        go_wp2_with fail
        refine (HR.out _).mono ?_; rintro e w4 ⟨rfl, hb4⟩
        have HB4 := Lib.hid (below_step HB3.out hb4); have HE4 := Lib.hid (HE3.out.later hb4); clear hb4
        go_wp2_with fail
        refine (HNM.out _ HE4.out).mono ?_; rintro e w5 ⟨rfl, hb5⟩
        have HB5 := Lib.hid (below_step HB4.out hb5); have HE5 := Lib.hid (HE4.out.later hb5); clear hb5
        go_wp2_with fail
        refine (HPN2.out _ HE5.out).mono ?_; rintro e w6 ⟨rfl, hb6⟩
        have HB6 := Lib.hid (below_step HB5.out hb6); have HE6 := Lib.hid (HE5.out.later hb6); clear hb6
        go_wp2_with fail
        refine (HNM.out _ HE6.out).mono ?_; rintro e w7 ⟨rfl, hb7⟩
        have HB7 := Lib.hid (below_step HB6.out hb7); clear hb7
        go_wp2_with fail
        refine (HRN.out _).mono ?_; rintro e w8 ⟨rfl, hb8⟩
        have HB8 := Lib.hid (below_step HB7.out hb8); clear hb8
        go_wp2_with fail
        refine (HT.out _).mono ?_; rintro e w9 ⟨rfl, rfl⟩
        go_wp2_with fail
        go_ret
        exact ⟨rfl, HB8.out⟩
  · have hd : decide ((600 : Int) < (kind.size : Int)) = true ∨ (decide ((600 : Int) < (kind.size : Int)) = false ∧ decide ((600 : Int) < (name.size : Int)) = true) := by
      simp only [decide_eq_true_eq, decide_eq_false_iff_not]; omega
    clear hg
    rcases hd with d1 | ⟨d1, d2⟩
    all_goals
      go_enter Tryd.func3, Tryd.ntmps3
      go_wp2_with fail
      refine HWK.out.mono ?_; rintro e w2 ⟨rfl, hb2⟩
      have HB2 := Lib.hid hb2; clear hb2
      go_wp2_with fail
      go_ret
      exact ⟨rfl, HB2.out⟩
end Go.Proofs.YtokofifecdpmfaaDoor
