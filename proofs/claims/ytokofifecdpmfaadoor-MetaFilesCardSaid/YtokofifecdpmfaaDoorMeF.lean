/-
  MetaFiles: the walk of the law.
-/
import Derived.Test.YtokofifecdpmfaaDoorMeZ
import Derived.Test.YtokofifecdpmfaaDoorMeW
namespace Go.Proofs.YtokofifecdpmfaaDoor
open Go.RowKit

set_option maxRecDepth 100000 in
set_option maxHeartbeats 1000000 in
theorem metaFiles_walk (w : World) (hE : Env w) (a : Int) (_ha : (Lit.int .i64 a).wf = true) (b : Int) (_hb : (Lit.int .i64 b).wf = true) (name : ByteArray) (_hn : name.size ≤ maxLen) :
    Calls Tryd.prog 6 #[.int .i64 a, .int .i64 b, .string name] w fun e w' => e = .returned (.bool true) ∧ Below w.heap.size w w' := by
  have HE := Lib.hid hE
  have HWK := Lib.hid (works_any w hE)
  clear hE
  by_cases hg : name.size ≤ 600 ∧ 0 ≤ a ∧ 0 ≤ b ∧ a ≤ 999999 ∧ b ≤ 999999
  · obtain ⟨hl, a0, b0, a1, b1⟩ := hg
    have d1 : decide ((600 : Int) < (name.size : Int)) = false := by simp; omega
    have d2 : decide (a < 0) = false := by simp; omega
    have d3 : decide (b < 0) = false := by simp; omega
    have d4 : decide (999999 < a) = false := by simp; omega
    have d5 : decide (999999 < b) = false := by simp; omega
    have htemp := fun W => Temp_any name (by omega) W
    have hpz := Me.parse_temp name
    have hparse := fun W h => Parse_any (⟨#[116, 109, 112, 45]⟩ ++ name) (by rw [ByteArray.size_append]; show 4 + _ ≤ _; omega) W h
    rw [hpz] at hparse
    have hna : ∀ W, Env W → Calls Tryd.prog 10 #[.string ⟨#[119, 97, 108]⟩, .int .i64 a] W fun e w' => e = .returned (.string (Me.nameB Me.wal a)) ∧ Below W.heap.size W w' := fun W h => Name_any Me.wal (by decide) a W h
    have hnb : ∀ W, Env W → Calls Tryd.prog 10 #[.string ⟨#[119, 97, 108]⟩, .int .i64 b] W fun e w' => e = .returned (.string (Me.nameB Me.wal b)) ∧ Below W.heap.size W w' := fun W h => Name_any Me.wal (by decide) b W h
    have hkb : ∀ W, Env W → Calls Tryd.prog 10 #[.string ⟨#[98, 108, 111, 99, 107]⟩, .int .i64 b] W fun e w' => e = .returned (.string (Me.nameB Me.block b)) ∧ Below W.heap.size W w' := fun W h => Name_any Me.block (by decide) b W h
    obtain ⟨x, rfl⟩ : ∃ x : Nat, a = x := ⟨a.toNat, by omega⟩
    obtain ⟨y, rfl⟩ : ∃ y : Nat, b = y := ⟨b.toNat, by omega⟩
    have q1 := str_beq (Me.nameB Me.wal x) (Me.nameB Me.wal y)
    have q1' := Me.name_inj Me.wal x y (by omega) (by omega)
    have q2 : ((Me.nameB Me.wal x).toList == (Me.nameB Me.block y).toList) = false := by
      rw [str_beq]; simpa using Me.name_kinds x y (by omega) (by omega)
    have q3 := Me.name_less Me.wal x y (by omega) (by omega)
    have hcase : (((Me.nameB Me.wal x).toList == (Me.nameB Me.wal y).toList) = true ∧ (((x : Int)) == (y : Int)) = true ∧ Op.bytesLess (Me.nameB Me.wal x).toList (Me.nameB Me.wal y).toList = false ∧ decide ((x : Int) < (y : Int)) = false) ∨
        (((Me.nameB Me.wal x).toList == (Me.nameB Me.wal y).toList) = false ∧ (((x : Int)) == (y : Int)) = false ∧ Op.bytesLess (Me.nameB Me.wal x).toList (Me.nameB Me.wal y).toList = true ∧ decide ((x : Int) < (y : Int)) = true) ∨
        (((Me.nameB Me.wal x).toList == (Me.nameB Me.wal y).toList) = false ∧ (((x : Int)) == (y : Int)) = false ∧ Op.bytesLess (Me.nameB Me.wal x).toList (Me.nameB Me.wal y).toList = false ∧ decide ((x : Int) < (y : Int)) = false) := by
      rw [q1, q3]
      rcases Nat.lt_trichotomy x y with h | h | h
      · right; left
        exact ⟨by simp only [decide_eq_false_iff_not]; exact fun e => by have := q1'.1 e; omega, by rw [beq_eq_false_iff_ne]; omega, by simpa using h, by simp; omega⟩
      · left
        exact ⟨by simpa using q1'.2 h, by simp [h], by simp; omega, by simp; omega⟩
      · right; right
        exact ⟨by simp only [decide_eq_false_iff_not]; exact fun e => by have := q1'.1 e; omega, by rw [beq_eq_false_iff_ne]; omega, by simp; omega, by simp; omega⟩
    have HT := Lib.hid htemp; have HP := Lib.hid hparse; have HNA := Lib.hid hna; have HNB := Lib.hid hnb; have HKB := Lib.hid hkb; have HC := Lib.hid hcase
    clear htemp hpz hparse hna hnb hkb q1 q1' q3 hcase a0 b0
    generalize (Me.parse (⟨#[116, 109, 112, 45]⟩ ++ name)).1 = p1 at *
    generalize (Me.parse (⟨#[116, 109, 112, 45]⟩ ++ name)).2.1 = p2 at *
    generalize (⟨#[116, 109, 112, 45]⟩ : ByteArray) ++ name = tn at *
    generalize Me.nameB Me.wal (x : Int) = na at *
    generalize Me.nameB Me.wal (y : Int) = nb at *
    generalize Me.nameB Me.block (y : Int) = kb at *
    rcases HC.out with ⟨r1, r2, r3, r4⟩ | ⟨r1, r2, r3, r4⟩ | ⟨r1, r2, r3, r4⟩
    all_goals
      have r5 : decide (x < y) = decide ((x : Int) < (y : Int)) := by simp
      rw [r4] at r5
      go_enter Tryd.func6, Tryd.ntmps6
      go_wp2_with fail
      refine HWK.out.mono ?_; rintro e w2 ⟨rfl, hb2⟩
      have HB2 := Lib.hid hb2; have HE2 := Lib.hid (HE.out.later hb2); clear hb2
      go_wp2_with fail
      refine (HT.out _).mono ?_; rintro e w3 ⟨rfl, rfl⟩
      go_wp2_with fail
      refine (HP.out _ HE2.out).mono ?_; rintro e w4 ⟨rfl, hb4⟩
      have HB4 := Lib.hid (below_step HB2.out hb4); have HE4 := Lib.hid (HE2.out.later hb4); clear hb4
      go_wp2_with fail
      refine (HNA.out _ HE4.out).mono ?_; rintro e w5 ⟨rfl, hb5⟩
      have HB5 := Lib.hid (below_step HB4.out hb5); have HE5 := Lib.hid (HE4.out.later hb5); clear hb5
      go_wp2_with fail
      refine (HNB.out _ HE5.out).mono ?_; rintro e w6 ⟨rfl, hb6⟩
      have HB6 := Lib.hid (below_step HB5.out hb6); have HE6 := Lib.hid (HE5.out.later hb6); clear hb6
      go_wp2_with fail
      refine (HNA.out _ HE6.out).mono ?_; rintro e w7 ⟨rfl, hb7⟩
      have HB7 := Lib.hid (below_step HB6.out hb7); have HE7 := Lib.hid (HE6.out.later hb7); clear hb7
      go_wp2_with fail
      refine (HKB.out _ HE7.out).mono ?_; rintro e w8 ⟨rfl, hb8⟩
      have HB8 := Lib.hid (below_step HB7.out hb8); have HE8 := Lib.hid (HE7.out.later hb8); clear hb8
      go_wp2_with fail
      refine (HNA.out _ HE8.out).mono ?_; rintro e w9 ⟨rfl, hb9⟩
      have HB9 := Lib.hid (below_step HB8.out hb9); have HE9 := Lib.hid (HE8.out.later hb9); clear hb9
      go_wp2_with fail
      refine (HNB.out _ HE9.out).mono ?_; rintro e wa ⟨rfl, hba⟩
      have HBa := Lib.hid (below_step HB9.out hba); clear hba
      go_wp2_with fail
      go_ret
      exact ⟨rfl, HBa.out⟩
  · have hd : decide ((600 : Int) < (name.size : Int)) = true ∨ (decide ((600 : Int) < (name.size : Int)) = false ∧ decide (a < 0) = true) ∨ (decide ((600 : Int) < (name.size : Int)) = false ∧ decide (a < 0) = false ∧ decide (b < 0) = true) ∨
        (decide ((600 : Int) < (name.size : Int)) = false ∧ decide (a < 0) = false ∧ decide (b < 0) = false ∧ decide (999999 < a) = true) ∨ (decide ((600 : Int) < (name.size : Int)) = false ∧ decide (a < 0) = false ∧ decide (b < 0) = false ∧ decide (999999 < a) = false ∧ decide (999999 < b) = true) := by
      simp only [decide_eq_true_eq, decide_eq_false_iff_not]; omega
    clear hg
    rcases hd with d1 | ⟨d1, d2⟩ | ⟨d1, d2, d3⟩ | ⟨d1, d2, d3, d4⟩ | ⟨d1, d2, d3, d4, d5⟩
    all_goals
      go_enter Tryd.func6, Tryd.ntmps6
      go_wp2_with fail
      refine HWK.out.mono ?_; rintro e w2 ⟨rfl, hb2⟩
      have HB2 := Lib.hid hb2; clear hb2
      go_wp2_with fail
      go_ret
      exact ⟨rfl, HB2.out⟩
end Go.Proofs.YtokofifecdpmfaaDoor
