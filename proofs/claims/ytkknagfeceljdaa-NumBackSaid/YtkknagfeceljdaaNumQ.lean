/-
  NumBack: the walk of the law, given what works comes to.
-/
import Derived.Test.YtkknagfeceljdaaNumK
import Derived.Deep.DeepCutAuto
namespace Go.Proofs.Ytkknagfeceljdaa
open Go.RowKit

theorem curSmall_yes (b n : Nat) (hn : n < 18446744073709551616) (r s : ByteArray) (hr : s = Num.smallB n ++ r) (hs : s.size ≤ maxLen) (w : World) (hc : CurAt b s false w) :
    Calls Try.prog 23 #[.pointer (some ⟨b, 0, none⟩)] w fun e w' => e = .returned (.int .u64 n) ∧ CurAt b r false w' ∧ w.grownBy w' (some b) := by
  subst hr
  have h := curSmall b _ hs false w hc
  simp only [Num.decp_small n hn r, Num.drop_app, Num.curV] at h
  simpa using h
theorem curWide_yes (b n : Nat) (hn : n < 18446744073709551616) (r s : ByteArray) (hr : s = Num.wideB n ++ r) (hs : s.size ≤ maxLen) (w : World) (hc : CurAt b s false w) :
    Calls Try.prog 25 #[.pointer (some ⟨b, 0, none⟩)] w fun e w' => e = .returned (.int .u64 n) ∧ CurAt b r false w' ∧ w.grownBy w' (some b) := by
  have h8 := Num.wideB_size n
  have hd : decide (8 ≤ s.size) = true := by subst hr; simp [ByteArray.size_append]; omega
  have hx := Num.drop_app (Num.wideB n) r
  have h := curWide b _ hs false w hc
  rw [h8, ← hr] at hx
  simp only [hd, if_true, hx, Num.curV] at h
  rw [hr, Num.num_wide n hn r, ← hr] at h
  simpa using h
theorem curText_yes (b : Nat) (t r s : ByteArray) (ht : t.size ≤ 300) (hr : s = (Num.smallB t.size ++ t) ++ r) (hs : s.size ≤ maxLen) (w : World) (hc : CurAt b s false w) :
    Calls Try.prog 27 #[.pointer (some ⟨b, 0, none⟩), .int .i64 (t.size : Nat)] w fun e w' => e = .returned (.string t) ∧ CurAt b r false w' ∧ w.grownBy w' (some b) := by
  have h := curText b _ hs false (t.size : Nat) (Lib.hid (by omega)) w hc
  obtain ⟨h1, h2, h3⟩ := Num.text_app t r ht
  have hx := Num.drop_app (Num.smallB t.size ++ t) r
  rw [← hr] at h1 h2 h3 hx
  simp only [h1, h2, h3, if_true, hx, Num.curV] at h
  simpa using h
theorem curFixed_yes (b : Nat) (t r s : ByteArray) (k : Int) (hr : s = Num.fixedB t (Num.sz k) ++ r) (hs : s.size ≤ maxLen) (w : World) (hc : CurAt b s false w) :
    Calls Try.prog 29 #[.pointer (some ⟨b, 0, none⟩), .int .i64 k] w fun e w' => e = .returned (.string (t.extract 0 (Num.sz k))) ∧ CurAt b r false w' ∧ w.grownBy w' (some b) := by
  have h := curFixed b _ hs false k w hc
  obtain ⟨h1, h2, h3⟩ := Num.fixed_app t r (Num.sz k) (Num.sz_le k)
  have hx := Num.drop_app (Num.fixedB t (Num.sz k)) r
  rw [← hr] at h1 h2 h3 hx
  simp only [h1, h2, h3, hx, Num.curV] at h
  simpa using h

set_option maxRecDepth 100000 in
set_option maxHeartbeats 800000 in
theorem numBack_walk0 (hW : WorksOk) (w : World) (n : Int) (hn : (Lit.int .u64 n).wf = true) (i : Int) (hi : (Lit.int .i64 i).wf = true) (t : ByteArray) (ht : t.size ≤ maxLen) (k : Int) (_hk : (Lit.int .i64 k).wf = true) (r : ByteArray) (_hr : r.size ≤ maxLen) :
    Calls Try.prog 5 #[.int .u64 n, .int .i64 i, .string t, .int .i64 k, .string r] w fun e w' => e = .returned (.bool true) ∧ Below w.heap.size w w' := by
  obtain ⟨m, rfl, HM⟩ := u64_nat n hn
  have HI := i64_bd i hi
  clear hn hi _hk
  by_cases hl : t.size ≤ 300 ∧ r.size ≤ 300
  · obtain ⟨l1, l2⟩ := hl
    have d1 : decide ((300 : Int) < (t.size : Int)) = false := by simp; omega
    have d2 : decide ((300 : Int) < (r.size : Int)) = false := by simp; omega
    have z1 := Num.small_size m
    have z2 := Num.wideB_size m
    have z3 := Num.small_size t.size
    have z4 := Num.fixedB_size t (Num.sz k)
    have z5 := Num.sz_le k
    obtain ⟨R3, e3⟩ : ∃ x, x = Num.fixedB t (Num.sz k) ++ r := ⟨_, rfl⟩
    obtain ⟨R2, e2⟩ : ∃ x, x = (Num.smallB t.size ++ t) ++ R3 := ⟨_, rfl⟩
    obtain ⟨R1, e1⟩ : ∃ x, x = Num.wideB m ++ R2 := ⟨_, rfl⟩
    obtain ⟨S0, e0⟩ : ∃ x, x = Num.smallB m ++ R1 := ⟨_, rfl⟩
    have hA : (((Num.smallB m ++ Num.wideB m) ++ (Num.smallB t.size ++ t)) ++ Num.fixedB t (Num.sz k)) ++ r = S0 := by rw [e0, e1, e2, e3]; simp only [ByteArray.append_assoc]
    have y3 : R3.size ≤ 1000 := by rw [e3, ByteArray.size_append]; omega
    have y2 : R2.size ≤ 2000 := by rw [e2, ByteArray.size_append, ByteArray.size_append]; omega
    have y1 : R1.size ≤ 3000 := by rw [e1, ByteArray.size_append]; omega
    have y0 : S0.size ≤ 4000 := by rw [e0, ByteArray.size_append]; omega
    have x3 : R3.size ≤ maxLen := by unfold maxLen; omega
    have x2 : R2.size ≤ maxLen := by unfold maxLen; omega
    have x1 : R1.size ≤ maxLen := by unfold maxLen; omega
    have x0 : S0.size ≤ maxLen := by unfold maxLen; omega
    have HA := Lib.hid hA; have E0 := Lib.hid e0; have E1 := Lib.hid e1; have E2 := Lib.hid e2; have E3 := Lib.hid e3; have X := Lib.hid (And.intro x0 (And.intro x1 (And.intro x2 x3)))
    have hz : k < 0 ∧ Num.sz k = 0 ∨ (0 ≤ k ∧ k ≤ 255 ∧ (Num.sz k : Int) = k) ∨ (255 < k ∧ Num.sz k = 255) := by unfold Num.sz; omega
    have HZ := Lib.hid hz
    have g1 : Num.zag (Num.zig i) = i := Num.zag_zig i
    have g2 : Num.zig (Num.zag m) = m := Num.zig_zag m
    have g3 : Hid (Num.zig i < 18446744073709551616) := Lib.hid (Num.zig_lt i HI.out.1 HI.out.2)
    have g4 : Hid (-9223372036854775808 ≤ Num.zag m ∧ Num.zag m ≤ 9223372036854775807) := Lib.hid (Num.zag_bd m HM.out)
    have G1 := Lib.hid g1; have G2 := Lib.hid g2
    clear hA e0 e1 e2 e3 x0 x1 x2 x3 y0 y1 y2 y3 hz g1 g2
    go_enter Try.func5, Try.ntmps5
    have HB0 := Lib.hid (Below.refl w.heap.size w)
    go_wp2_with fail
    refine (hW _).mono ?_; rintro e w1 ⟨rfl, hb1⟩; have HB1 := Lib.hid (below_step HB0.out hb1); clear hb1 HB0
    go_wp2_with fail
    refine (Small_any m HM _).mono ?_; rintro e w2 ⟨rfl, hb2⟩; have HB2 := Lib.hid (below_step HB1.out hb2); clear hb2 HB1
    go_wp2_with fail
    refine (Wide_any m _).mono ?_; rintro e w3 ⟨rfl, hb3⟩; have HB3 := Lib.hid (below_step HB2.out hb3); clear hb3 HB2
    go_wp2_with fail
    refine (Text_any t l1 _).mono ?_; rintro e w4 ⟨rfl, hb4⟩; have HB4 := Lib.hid (below_step HB3.out hb4); clear hb4 HB3
    go_wp2_with fail
    refine (Fixed_any t ht k _).mono ?_; rintro e w5 ⟨rfl, hb5⟩; have HB5 := Lib.hid (below_step HB4.out hb5); clear hb5 HB4
    go_wp2_with fail
    rw [HA.out]
    have hsz := HB5.out.size
    have HB6 := Lib.hid (HB5.out.alloc hsz (.cells #[.string S0, .bool false] 32))
    have hc0 : CurAt w5.heap.size S0 false (w5.alloc (.cells #[.string S0, .bool false] 32)) := heap_alloc_new _ _
    have HC0 := Lib.hid hc0; clear hc0
    refine (curSmall_yes _ m HM.out R1 S0 E0.out X.out.1 _ HC0.out).mono ?_; rintro e W1 ⟨rfl, h1, h2⟩
    have HC1 := Lib.hid h1; have HG1 := Lib.hid h2; clear h1 h2 HC0
    go_wp2_with fail
    refine (curWide_yes _ m HM.out R2 R1 E1.out X.out.2.1 _ HC1.out).mono ?_; rintro e W2 ⟨rfl, h1, h2⟩
    have HC2 := Lib.hid h1; have HG2 := Lib.hid (grown_trans HG1.out h2); clear h1 h2 HC1 HG1
    go_wp2_with fail
    refine (curText_yes _ t R3 R2 l1 E2.out X.out.2.2.1 _ HC2.out).mono ?_; rintro e W3 ⟨rfl, h1, h2⟩
    have HC3 := Lib.hid h1; have HG3 := Lib.hid (grown_trans HG2.out h2); clear h1 h2 HC2 HG2
    go_wp2_with fail
    refine (curFixed_yes _ t r R3 k E3.out X.out.2.2.2 _ HC3.out).mono ?_; rintro e W4 ⟨rfl, h1, h2⟩
    have HC4 := Lib.hid h1; have HG4 := Lib.hid (grown_trans HG3.out h2); clear h1 h2 HC3 HG3
    have HB7 := Lib.hid (below_of_grown HB6.out HG4.out (by simp; omega) hsz)
    clear HB5 HB6 HG4
    generalize hq : t.extract 0 (Num.sz k) = q at *
    have HQ := Lib.hid hq; clear hq
    go_upto_region 11 with fail
    go_cut [17] (fun s0 wx => s0 = .string q ∧ W4 = wx)
    case first =>
      have hall : ∀ z, t.size ≤ z → t = t.extract 0 z := fun z h => by
        apply ByteArray.ext; apply Array.toList_inj.1
        simp [ByteArray.data_extract, Array.toList_extract]
        rw [List.take_of_length_le (by simp; omega)]
      have HALL := Lib.hid hall; clear hall
      have hz := HZ.out
      generalize Num.sz k = z at *
      rcases hz with ⟨h1, rfl⟩ | ⟨h1, h2, rfl⟩ | ⟨h1, rfl⟩
      · go_wp2_with fail
        all_goals go_meet
        all_goals first | exact ⟨congrArg Value.string HQ.out, rfl⟩ | exact ⟨congrArg Value.string ((HALL.out _ (by omega)).trans HQ.out), rfl⟩ | exact ⟨congrArg Value.string (by simpa using HQ.out), rfl⟩
      · rcases Nat.le_total z t.size with h3 | h3
        all_goals go_wp2_with fail
        all_goals go_meet
        all_goals first | exact ⟨congrArg Value.string HQ.out, rfl⟩ | exact ⟨congrArg Value.string ((HALL.out _ (by omega)).trans HQ.out), rfl⟩ | exact ⟨congrArg Value.string (by simpa using HQ.out), rfl⟩
      · rcases Nat.le_total 255 t.size with h3 | h3
        all_goals go_wp2_with fail
        all_goals go_meet
        all_goals first | exact ⟨congrArg Value.string HQ.out, rfl⟩ | exact ⟨congrArg Value.string ((HALL.out _ (by omega)).trans HQ.out), rfl⟩ | exact ⟨congrArg Value.string (by simpa using HQ.out), rfl⟩
    case rest =>
    obtain ⟨rfl, rfl⟩ := hcut
    obtain ⟨c0, c1, -, -⟩ := CurAt.cells (HC4.out : CurAt _ _ _ _)
    go_wp2_with fail
    refine (Zig_any i HI _).mono ?_; rintro e wx ⟨rfl, rfl⟩
    go_wp2_with fail
    refine (Zag_any (Num.zig i) g3 _).mono ?_; rintro e wx ⟨rfl, rfl⟩
    rw [G1.out]
    go_wp2_with fail
    refine (Zag_any m HM _).mono ?_; rintro e wx ⟨rfl, rfl⟩
    go_wp2_with fail
    refine (Zig_any (Num.zag m) g4 _).mono ?_; rintro e wx ⟨rfl, rfl⟩
    rw [G2.out]
    go_wp2_with fail
    go_ret
    exact ⟨by simp, HB7.out⟩
  · have hd : decide ((300 : Int) < (t.size : Int)) = true ∨ (decide ((300 : Int) < (t.size : Int)) = false ∧ decide ((300 : Int) < (r.size : Int)) = true) := by
      simp only [decide_eq_true_eq, decide_eq_false_iff_not]; omega
    rcases hd with h1 | ⟨h1, h2⟩
    all_goals
      go_enter Try.func5, Try.ntmps5
      have HB0 := Lib.hid (Below.refl w.heap.size w)
      go_wp2_with fail
      refine (hW _).mono ?_; rintro e w1 ⟨rfl, hb1⟩; have HB1 := Lib.hid (below_step HB0.out hb1); clear hb1 HB0
      go_wp2_with fail
      go_ret
      exact ⟨rfl, HB1.out⟩
end Go.Proofs.Ytkknagfeceljdaa
