/-
  NumTakes: the walk of the law, given what works comes to.
-/
import Derived.Test.YtkknagfeceljdaaNumL
namespace Go.Proofs.Ytkknagfeceljdaa
open Go.RowKit

theorem curTake_yes (b : Nat) (s : ByteArray) (hs : s.size ≤ maxLen) (m : Nat) (hm : m ≤ s.size) (w : World) (hc : CurAt b s false w) :
    Calls Try.prog 31 #[.pointer (some ⟨b, 0, none⟩), .int .i64 m] w fun e w' => e = .returned (.string (s.extract 0 m)) ∧ CurAt b (s.extract m s.size) false w' ∧ w.grownBy w' (some b) := by
  have hok : Num.tOk (m : Int) s = true := by unfold Num.tOk; simp; omega
  have h := curTake b s hs false m w hc
  simpa [hok, Num.curV] using h
theorem curTake_no (b : Nat) (s : ByteArray) (hs : s.size ≤ maxLen) (bad : Bool) (m : Int) (hm : bad = true ∨ (s.size : Int) < m ∨ m < 0) (w : World) (hc : CurAt b s bad w) :
    Calls Try.prog 31 #[.pointer (some ⟨b, 0, none⟩), .int .i64 m] w fun e w' => e = .returned (.string ByteArray.empty) ∧ CurAt b s true w' ∧ w.grownBy w' (some b) := by
  have h := curTake b s hs bad m w hc
  rcases hm with rfl | hm
  · simpa [Num.curV] using h
  · have hok : Num.tOk m s = false := by unfold Num.tOk; simp; omega
    simpa [Num.curV, hok] using h

set_option maxRecDepth 100000 in
set_option maxHeartbeats 400000 in
theorem numTakes_walk0 (hW : WorksOk) (w : World) (s : ByteArray) (hs : s.size ≤ maxLen) (a : Int) (_ha : (Lit.int .i64 a).wf = true) (b : Int) (_hb : (Lit.int .i64 b).wf = true) :
    Calls Try.prog 9 #[.string s, .int .i64 a, .int .i64 b] w fun e w' => e = .returned (.bool true) ∧ Below w.heap.size w w' := by
  by_cases hl : s.size ≤ 300 ∧ 0 ≤ a ∧ 0 ≤ b ∧ a ≤ 300 ∧ b ≤ 300
  · obtain ⟨l1, l2, l3, l4, l5⟩ := hl
    obtain ⟨a, rfl⟩ : ∃ n : Nat, a = n := ⟨a.toNat, by omega⟩
    obtain ⟨b, rfl⟩ : ∃ n : Nat, b = n := ⟨b.toNat, by omega⟩
    have d1 : decide ((300 : Int) < (s.size : Int)) = false := by simp; omega
    have d2 : decide ((300 : Int) < (a : Int)) = false := by simp; omega
    have d3 : decide ((300 : Int) < (b : Int)) = false := by simp; omega
    have e1 : wrap64 ((a : Int) + b) = ((a + b : Nat) : Int) := by rw [IntWalk.wrap64_in _ ⟨by omega, by omega⟩]; omega
    have d4 : decide ((a : Int) < 0) = false := by simp
    have d5 : decide ((b : Int) < 0) = false := by simp
    generalize hab : a + b = c at *
    have e2 : (c : Int) = (a : Int) + b := by omega
    have HAB := Lib.hid hab; have HE2 := Lib.hid e2; clear hab e2
    go_enter Try.func9, Try.ntmps9
    have HB0 := Lib.hid (Below.refl w.heap.size w)
    go_wp2_with fail
    refine (hW _).mono ?_; rintro e w1 ⟨rfl, hb1⟩; have HB1 := Lib.hid (below_step HB0.out hb1); clear hb1 HB0
    go_wp2_with fail
    have hsz := HB1.out.size
    have hy : CurAt (w1.heap.size + 1) s false ((w1.alloc (.cells #[.string s, .bool false] 32)).alloc (.cells #[.string s, .bool false] 32)) := heap_alloc2_new _ _ _
    have hx : CurAt w1.heap.size s false ((w1.alloc (.cells #[.string s, .bool false] 32)).alloc (.cells #[.string s, .bool false] 32)) := heap_keep (heap_alloc_new _ _) (Below.alloc (Below.refl _ _) (Nat.le_refl _) _)
    have HB2 := Lib.hid ((HB1.out.alloc hsz (.cells #[.string s, .bool false] 32)).alloc (by simp; omega) (.cells #[.string s, .bool false] 32)); clear HB1
    have HX := Lib.hid hx; have HY := Lib.hid hy; clear hx hy
    have he2 := HE2.out
    rcases (by omega : (a ≤ s.size ∧ c ≤ s.size) ∨ (a ≤ s.size ∧ s.size < c) ∨ s.size < a) with ⟨t1, t2⟩ | ⟨t1, t2⟩ | t1
    · skip
      have hz : (s.extract a s.size).size = s.size - a := by simp
      have hp1 : s.extract 0 a ++ (s.extract a s.size).extract 0 b = s.extract 0 c := by
        have := HAB.out
        rw [← this]
        apply ByteArray.ext; apply Array.toList_inj.1
        simp [ByteArray.data_extract, Array.toList_extract]
        omega
      have hp2 : (s.extract a s.size).extract b (s.extract a s.size).size = s.extract c s.size := by
        have := HAB.out
        rw [← this, hz, ByteArray.extract_extract]
        congr 1; omega
      have hd : decide ((s.size : Int) < (a : Int) + (b : Int)) = false := by simp; omega
      have H1 := Lib.hid hp1; have H2 := Lib.hid hp2; have HZ := Lib.hid hz; clear hp1 hp2 hz
      refine (curTake_yes _ s hs a (by omega) _ HX.out).mono ?_; rintro e w3 ⟨rfl, h1, h2⟩
      have HX3 := Lib.hid h1; have HY3 := Lib.hid (grown_keep HY.out h2 (by omega) : CurAt _ _ _ _); have HB3 := Lib.hid (below_of_grown HB2.out h2 (by simp; omega) (by omega)); clear h1 h2 HX HY HB2
      have q3 := HB3.out.size
      go_wp2_with fail
      refine (curTake_yes _ (s.extract a s.size) (by rw [HZ.out]; unfold maxLen; omega) b (by rw [HZ.out]; omega) _ HX3.out).mono ?_; rintro e w4 ⟨rfl, h1, h2⟩
      have HX4 := Lib.hid h1; have HY4 := Lib.hid (grown_keep HY3.out h2 (by omega) : CurAt _ _ _ _); have HB4 := Lib.hid (below_of_grown HB3.out h2 (by omega) (by omega)); clear h1 h2 HX3 HY3 HB3
      have q4 := HB4.out.size
      go_wp2_with fail
      rw [← he2]
      refine (curTake_yes _ s hs c (by omega) _ HY4.out).mono ?_; rintro e w5 ⟨rfl, h1, h2⟩
      have HY5 := Lib.hid h1; have HX5 := Lib.hid (grown_keep HX4.out h2 (by omega) : CurAt _ _ _ _); have HB5 := Lib.hid (below_of_grown HB4.out h2 (by omega) (by omega)); clear h1 h2 HX4 HY4 HB4
      obtain ⟨x0, x1, -, -⟩ := CurAt.cells (HX5.out : CurAt _ _ _ _)
      obtain ⟨y0, y1, -, -⟩ := CurAt.cells (HY5.out : CurAt _ _ _ _)
      rw [H2.out] at x0; have h1 := H1.out
      go_wp2_with fail
      go_ret
      exact ⟨by simp, HB5.out⟩
    · skip
      have hz : (s.extract a s.size).size = s.size - a := by simp
      have hd : decide ((s.size : Int) < (a : Int) + (b : Int)) = true := by simp; omega
      have HZ := Lib.hid hz; clear hz
      refine (curTake_yes _ s hs a (by omega) _ HX.out).mono ?_; rintro e w3 ⟨rfl, h1, h2⟩
      have HX3 := Lib.hid h1; have HY3 := Lib.hid (grown_keep HY.out h2 (by omega) : CurAt _ _ _ _); have HB3 := Lib.hid (below_of_grown HB2.out h2 (by simp; omega) (by omega)); clear h1 h2 HX HY HB2
      have q3 := HB3.out.size
      go_wp2_with fail
      refine (curTake_no _ (s.extract a s.size) (by rw [HZ.out]; unfold maxLen; omega) false b (by rw [HZ.out]; omega) _ HX3.out).mono ?_; rintro e w4 ⟨rfl, h1, h2⟩
      have HX4 := Lib.hid h1; have HY4 := Lib.hid (grown_keep HY3.out h2 (by omega) : CurAt _ _ _ _); have HB4 := Lib.hid (below_of_grown HB3.out h2 (by omega) (by omega)); clear h1 h2 HX3 HY3 HB3
      have q4 := HB4.out.size
      go_wp2_with fail
      rw [← he2]
      refine (curTake_no _ s hs false c (by omega) _ HY4.out).mono ?_; rintro e w5 ⟨rfl, h1, h2⟩
      have HY5 := Lib.hid h1; have HX5 := Lib.hid (grown_keep HX4.out h2 (by omega) : CurAt _ _ _ _); have HB5 := Lib.hid (below_of_grown HB4.out h2 (by omega) (by omega)); clear h1 h2 HX4 HY4 HB4
      obtain ⟨x0, x1, -, -⟩ := CurAt.cells (HX5.out : CurAt _ _ _ _)
      obtain ⟨y0, y1, -, -⟩ := CurAt.cells (HY5.out : CurAt _ _ _ _)
      skip
      go_wp2_with fail
      go_ret
      exact ⟨by simp, HB5.out⟩
    · skip
      have hd : decide ((s.size : Int) < (a : Int) + (b : Int)) = true := by simp; omega
      refine (curTake_no _ s hs false a (by omega) _ HX.out).mono ?_; rintro e w3 ⟨rfl, h1, h2⟩
      have HX3 := Lib.hid h1; have HY3 := Lib.hid (grown_keep HY.out h2 (by omega) : CurAt _ _ _ _); have HB3 := Lib.hid (below_of_grown HB2.out h2 (by simp; omega) (by omega)); clear h1 h2 HX HY HB2
      have q3 := HB3.out.size
      go_wp2_with fail
      refine (curTake_no _ s hs true b (by simp) _ HX3.out).mono ?_; rintro e w4 ⟨rfl, h1, h2⟩
      have HX4 := Lib.hid h1; have HY4 := Lib.hid (grown_keep HY3.out h2 (by omega) : CurAt _ _ _ _); have HB4 := Lib.hid (below_of_grown HB3.out h2 (by omega) (by omega)); clear h1 h2 HX3 HY3 HB3
      have q4 := HB4.out.size
      go_wp2_with fail
      rw [← he2]
      refine (curTake_no _ s hs false c (by omega) _ HY4.out).mono ?_; rintro e w5 ⟨rfl, h1, h2⟩
      have HY5 := Lib.hid h1; have HX5 := Lib.hid (grown_keep HX4.out h2 (by omega) : CurAt _ _ _ _); have HB5 := Lib.hid (below_of_grown HB4.out h2 (by omega) (by omega)); clear h1 h2 HX4 HY4 HB4
      obtain ⟨x0, x1, -, -⟩ := CurAt.cells (HX5.out : CurAt _ _ _ _)
      obtain ⟨y0, y1, -, -⟩ := CurAt.cells (HY5.out : CurAt _ _ _ _)
      skip
      go_wp2_with fail
      go_ret
      exact ⟨by simp, HB5.out⟩
  · have hd : decide ((300 : Int) < (s.size : Int)) = true ∨ (decide ((300 : Int) < (s.size : Int)) = false ∧ decide (a < 0) = true) ∨ (decide ((300 : Int) < (s.size : Int)) = false ∧ decide (a < 0) = false ∧ decide (b < 0) = true) ∨
        (decide ((300 : Int) < (s.size : Int)) = false ∧ decide (a < 0) = false ∧ decide (b < 0) = false ∧ decide (300 < a) = true) ∨ (decide ((300 : Int) < (s.size : Int)) = false ∧ decide (a < 0) = false ∧ decide (b < 0) = false ∧ decide (300 < a) = false ∧ decide (300 < b) = true) := by
      simp only [decide_eq_true_eq, decide_eq_false_iff_not]; omega
    rcases hd with h1 | ⟨h1, h2⟩ | ⟨h1, h2, h3⟩ | ⟨h1, h2, h3, h4⟩ | ⟨h1, h2, h3, h4, h5⟩
    all_goals
      go_enter Try.func9, Try.ntmps9
      have HB0 := Lib.hid (Below.refl w.heap.size w)
      go_wp2_with fail
      refine (hW _).mono ?_; rintro e w1 ⟨rfl, hb1⟩; have HB1 := Lib.hid (below_step HB0.out hb1); clear hb1 HB0
      go_wp2_with fail
      go_ret
      exact ⟨rfl, HB1.out⟩
end Go.Proofs.Ytkknagfeceljdaa
