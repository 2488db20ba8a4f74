/-
  What the functions of package frame come to: Get.
-/
import Derived.Test.YtokofifecdpmfaaDoorFrA
import Derived.Test.YtokofifecdpmfaaDoorRoundAny
import Derived.Deep.DeepCutAuto
namespace Go.Proofs.YtokofifecdpmfaaDoor
open Go.RowKit

theorem curTakeK (b : Nat) (s : ByteArray) (hs : s.size ≤ maxLen) (k : Nat) (hk : k ≤ s.size) (w : World) (hc : CurAt b s false w) :
    Calls Tryd.prog 47 #[.pointer (some ⟨b, 0, none⟩), .int .i64 k] w fun e w' => e = .returned (.string (s.extract 0 k)) ∧ CurAt b (s.extract k s.size) false w' ∧ w.grownBy w' (some b) := by
  have h := curTake b s hs false (k : Int) w hc
  have ht : Num.tOk (k : Int) s = true := by unfold Num.tOk; simp; omega
  simp only [ht, if_true, Int.toNat_natCast, Num.curV] at h
  simpa using h
theorem curSmallK (b : Nat) (s : ByteArray) (hs : s.size ≤ maxLen) (v n : Nat) (hd : Fr.num s = (v, n, true)) (w : World) (hc : CurAt b s false w) :
    Calls Tryd.prog 46 #[.pointer (some ⟨b, 0, none⟩)] w fun e w' => e = .returned (.int .u64 v) ∧ CurAt b (s.extract n s.size) false w' ∧ w.grownBy w' (some b) := by
  have h := curSmall b s hs false w hc
  unfold Fr.num at hd
  simp only [hd, Num.curV] at h
  simpa using h
theorem curSmallN (b : Nat) (s : ByteArray) (hs : s.size ≤ maxLen) (hd : (Fr.num s).2.2 = false) (w : World) (hc : CurAt b s false w) :
    Calls Tryd.prog 46 #[.pointer (some ⟨b, 0, none⟩)] w fun e w' => e = .returned (.int .u64 0) ∧ CurAt b s true w' ∧ w.grownBy w' (some b) := by
  have h := curSmall b s hs false w hc
  unfold Fr.num at hd
  simp only [hd, Num.curV] at h
  simpa using h

set_option maxRecDepth 100000 in
set_option maxHeartbeats 1000000 in
theorem Get_no (s : ByteArray) (hs : s.size ≤ maxLen) (most : Int) (hm : Hid (-9223372036854775808 ≤ most ∧ most ≤ 9223372036854775807)) (w : World)
    (h : Fr.mayGo s = true ∨ (Fr.num s).2.2 = false ∨ most < 0 ∨ most < ((Fr.num s).1 : Int) ∨ s.size < (Fr.num s).2.1 + (Fr.num s).1 + 4) :
    Calls Tryd.prog 26 #[.string s, .int .i64 most] w fun e w' => e = .returned (.tuple #[.string (Fr.get s most).1, .string (Fr.get s most).2.1, .int .i64 ((Fr.get s most).2.2 : Nat)]) ∧ Below w.heap.size w w' := by
  have HS := Lib.hid hs; clear hs
  by_cases hg : Fr.mayGo s = true
  · have hget : Fr.get s most = (ByteArray.empty, s, 1) := by unfold Fr.get; rw [if_pos hg]
    rw [hget]
    have HM := Lib.hid (mayGoOn_any s HS.out); have HGo := Lib.hid hg
    clear hget h hg
    go_enter Tryd.func26, Tryd.ntmps26
    go_wp2_with fail
    refine (HM.out _).mono ?_; rintro e w1 ⟨rfl, rfl⟩
    rw [HGo.out]
    go_wp2_with fail
    go_ret3
    exact ⟨rfl, Below.refl _ _⟩
  · have hg0 : Fr.mayGo s = false := by cases h : Fr.mayGo s <;> simp_all
    have hc0 : CurAt w.heap.size s false (w.alloc (.cells #[.string s, .bool false] 77)) := heap_alloc_new _ _
    have hgr := World.grownBy_alloc w (.cells #[.string s, .bool false] 77) (some w.heap.size)
    have HM := Lib.hid (mayGoOn_any s HS.out); have HGo := Lib.hid hg0
    have HC0 := Lib.hid hc0; have HGR := Lib.hid hgr
    clear hc0 hgr
    cases hok : (Fr.num s).2.2 with
    | false =>
      have hget : Fr.get s most = (ByteArray.empty, s, 2) := by unfold Fr.get; rw [if_neg hg, if_pos (.inl hok)]
      rw [hget]
      have HOK := Lib.hid hok
      clear hget h hg hg0 hok
      go_enter Tryd.func26, Tryd.ntmps26
      go_wp2_with fail
      refine (HM.out _).mono ?_; rintro e w1 ⟨rfl, rfl⟩
      rw [HGo.out]
      go_wp2_with fail
      refine (curSmallN w.heap.size s HS.out HOK.out _ HC0.out).mono ?_; rintro e w2 ⟨rfl, h1, h2⟩
      have HB2 := Lib.hid (below_of_grown (Below.refl w.heap.size w) (grown_trans HGR.out h2) (Nat.le_refl _) (Nat.le_refl _))
      have HC2 := Lib.hid h1
      obtain ⟨c0, c1, f0, f1⟩ := h1.cells
      clear h1 h2
      go_wp2_with fail
      go_ret3
      exact ⟨rfl, HB2.out⟩
    | true =>
      obtain ⟨v, hv⟩ : ∃ v, (Fr.num s).1 = v := ⟨_, rfl⟩
      obtain ⟨n, hn⟩ : ∃ n, (Fr.num s).2.1 = n := ⟨_, rfl⟩
      have hd : Fr.num s = (v, n, true) := by rw [← hv, ← hn, ← hok]
      have hns : n ≤ s.size := by rw [← hn]; exact Fr.num_le_size s
      have hvl : Hid (v < 18446744073709551616) := by have := Fr.num_lt s; rw [hv] at this; exact Lib.hid this
      rw [hv, hn, hok, hg0] at h
      have HD := Lib.hid hd
      have hm0 := hm.out
      by_cases hwrong : most < 0 ∨ most < (v : Int)
      · have hget : Fr.get s most = (ByteArray.empty, s, 2) := by unfold Fr.get; rw [if_neg hg, if_pos (.inr (by rw [hv]; exact hwrong))]
        rw [hget]
        clear hget h hg hg0 hok hd hv hn hm0
        go_enter Tryd.func26, Tryd.ntmps26
        go_wp2_with fail
        refine (HM.out _).mono ?_; rintro e w1 ⟨rfl, rfl⟩
        rw [HGo.out]
        go_wp2_with fail
        refine (curSmallK w.heap.size s HS.out v n HD.out _ HC0.out).mono ?_; rintro e w2 ⟨rfl, h1, h2⟩
        have HB2 := Lib.hid (below_of_grown (Below.refl w.heap.size w) (grown_trans HGR.out h2) (Nat.le_refl _) (Nat.le_refl _))
        have HC2 := Lib.hid h1
        obtain ⟨c0, c1, f0, f1⟩ := h1.cells
        clear h1 h2
        by_cases hneg : most < 0
        · have d1 : decide (most < 0) = true := by simpa using hneg
          clear hwrong hneg
          go_wp2_with fail
          go_ret3
          exact ⟨rfl, HB2.out⟩
        · have d1 : decide (most < 0) = false := by simpa using hneg
          have hwr : IntKind.u64.wrap most = most := by rw [IntKind.wrap_u64]; have := hm.out; omega
          have d2 : decide (most < (v : Int)) = true := by simp; omega
          clear hwrong hneg
          go_wp2_with fail
          go_ret3
          exact ⟨rfl, HB2.out⟩
      · have hshort : s.size < n + v + 4 := by
          rcases h with h | h | h | h | h
          · cases h
          · cases h
          · exact absurd (.inl h) hwrong
          · exact absurd (.inr h) hwrong
          · exact h
        have hget : Fr.get s most = (ByteArray.empty, s, 1) := by unfold Fr.get; rw [if_neg hg, if_neg (by rw [hv, hok]; rintro (h | h); cases h; exact hwrong h), if_pos (by rw [hv, hn]; exact hshort)]
        rw [hget]
        have d1 : decide (most < 0) = false := by simp; omega
        have hwr : IntKind.u64.wrap most = most := by rw [IntKind.wrap_u64]; omega
        have d2 : decide (most < (v : Int)) = false := by simp; omega
        have hwv : IntKind.u64.wrap ((v : Int) + 4) = (v : Int) + 4 := by rw [IntKind.wrap_u64]; omega
        have hsz := HS.out
        unfold maxLen at hsz
        have hez : (s.extract n s.size).size = s.size - n := by rw [ByteArray.size_extract]; omega
        have hwl : IntKind.u64.wrap (((s.extract n s.size).size : Nat) : Int) = ((s.extract n s.size).size : Nat) := by rw [IntKind.wrap_u64]; omega
        have d3 : decide ((((s.extract n s.size).size : Nat) : Int) < (v : Int) + 4) = true := by simp; omega
        clear hget h hg hg0 hok hd hv hn hm0 hwrong hshort hsz hez
        go_enter Tryd.func26, Tryd.ntmps26
        go_wp2_with fail
        refine (HM.out _).mono ?_; rintro e w1 ⟨rfl, rfl⟩
        rw [HGo.out]
        go_wp2_with fail
        refine (curSmallK w.heap.size s HS.out v n HD.out _ HC0.out).mono ?_; rintro e w2 ⟨rfl, h1, h2⟩
        have HB2 := Lib.hid (below_of_grown (Below.refl w.heap.size w) (grown_trans HGR.out h2) (Nat.le_refl _) (Nat.le_refl _))
        have HC2 := Lib.hid h1
        obtain ⟨c0, c1, f0, f1⟩ := h1.cells
        clear h1 h2
        generalize s.extract n s.size = s2 at *
        go_wp2_with fail
        go_ret3
        exact ⟨rfl, HB2.out⟩
end Go.Proofs.YtokofifecdpmfaaDoor
