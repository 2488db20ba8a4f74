/-
  Nothing else is read: the mathematics, and the cursor's calls told so.
-/
import Derived.Test.YtokofifecdpmfaaGreatDoorNumK
namespace Go.Proofs.YtokofifecdpmfaaGreatDoor
open Go.RowKit
namespace Num

theorem split_at (s : ByteArray) (k : Nat) : s.extract 0 k ++ s.extract k s.size = s := by
  have h : s.data.toList.length = s.size := by simp
  apply ByteArray.ext; apply Array.toList_inj.1
  rw [app_list]
  simp only [ByteArray.data_extract, Array.toList_extract, List.extract_eq_take_drop, List.drop_zero, Nat.sub_zero]
  rw [List.take_of_length_le (l := List.drop k _) (by simp), List.take_append_drop]
theorem small_back (s : ByteArray) (h : (decp 0 0 s.data.toList).2.2 = true) : smallB (decp 0 0 s.data.toList).1 = s.extract 0 (decp 0 0 s.data.toList).2.1 ∧ (decp 0 0 s.data.toList).1 < 18446744073709551616 := by
  have hg : get s.data.toList = some ((decp 0 0 s.data.toList).1, (decp 0 0 s.data.toList).2.1) := by
    unfold get; rw [decp_dec, if_pos h]
  obtain ⟨h1, _, _, h4⟩ := small_get _ _ _ hg
  refine ⟨?_, h4⟩
  apply ByteArray.ext; apply Array.toList_inj.1
  simp only [ByteArray.data_extract, Array.toList_extract, List.extract_eq_take_drop, List.drop_zero, Nat.sub_zero]
  exact h1
theorem num_bound (l : List UInt8) : num l < 256 ^ l.length := num_lt l
theorem le_cons (b : UInt8) (n : Nat) : ∀ k, le (b.toNat + 256 * n) (k + 1) = b :: le n k
  | 0 => by simp [le]
  | k + 1 => by
    have hb := b.toNat_lt
    have h1 : (b.toNat + 256 * n) / 256 ^ (k + 1) = n / 256 ^ k := by
      rw [Nat.pow_succ, Nat.mul_comm (256 ^ k), ← Nat.div_div_eq_div_mul]
      congr 1; omega
    rw [le, le_cons b n k, h1, le]
    simp
theorem le_num : ∀ l : List UInt8, le (num l) l.length = l
  | [] => rfl
  | b :: r => by rw [List.length_cons, num, le_cons, le_num r]
theorem wide_back (s : ByteArray) (h : 8 ≤ s.size) : wideB (num (s.data.toList.take 8)) = s.extract 0 8 ∧ num (s.data.toList.take 8) < 18446744073709551616 := by
  have hl : (s.data.toList.take 8).length = 8 := by simp; omega
  constructor
  · apply ByteArray.ext; apply Array.toList_inj.1
    simp only [ByteArray.data_extract, Array.toList_extract, List.extract_eq_take_drop, List.drop_zero, Nat.sub_zero]
    show le (num (s.data.toList.take 8)) 8 = _
    have := le_num (s.data.toList.take 8)
    rw [hl] at this
    exact this
  · have := num_lt (s.data.toList.take 8)
    rw [hl] at this
    exact this
end Num

theorem curSmall_or (b : Nat) (s : ByteArray) (hs : s.size ≤ maxLen) (w : World) (hc : CurAt b s false w) :
    Calls Tryz.prog 53 #[.pointer (some ⟨b, 0, none⟩)] w fun e w' => ∃ (n : Nat) (r : ByteArray) (bad : Bool), e = .returned (.int .u64 n) ∧ CurAt b r bad w' ∧ w.grownBy w' (some b) ∧ n < 18446744073709551616 ∧ (bad = false → Num.smallB n ++ r = s) ∧ bad = !(Num.decp 0 0 s.data.toList).2.2 := by
  refine (curSmall b s hs false w hc).mono ?_
  rintro e w' ⟨rfl, h1, h2⟩
  by_cases hd : (Num.decp 0 0 s.data.toList).2.2 = true
  · obtain ⟨h3, h4⟩ := Num.small_back s hd
    refine ⟨(Num.decp 0 0 s.data.toList).1, s.extract (Num.decp 0 0 s.data.toList).2.1 s.size, false, by simp [Num.curV, hd], by simpa [Num.curV, hd] using h1, h2, h4, fun _ => ?_, by simp [hd]⟩
    rw [h3, Num.split_at]
  · exact ⟨0, s, true, by simp [Num.curV, hd], by simpa [Num.curV, hd] using h1, h2, by decide, (fun h => by cases h), by simpa using hd⟩
theorem curWide_or (b : Nat) (s : ByteArray) (hs : s.size ≤ maxLen) (w : World) (hc : CurAt b s false w) :
    Calls Tryz.prog 56 #[.pointer (some ⟨b, 0, none⟩)] w fun e w' => ∃ (n : Nat) (r : ByteArray) (bad : Bool), e = .returned (.int .u64 n) ∧ CurAt b r bad w' ∧ w.grownBy w' (some b) ∧ (bad = false → Num.wideB n ++ r = s) ∧ bad = !decide (8 ≤ s.size) := by
  refine (curWide b s hs false w hc).mono ?_
  rintro e w' ⟨rfl, h1, h2⟩
  by_cases hd : 8 ≤ s.size
  · obtain ⟨h3, h4⟩ := Num.wide_back s hd
    refine ⟨Num.num (s.data.toList.take 8), s.extract 8 s.size, false, by simp [Num.curV, hd], by simpa [Num.curV, hd] using h1, h2, fun _ => ?_, by simp [hd]⟩
    rw [h3, Num.split_at]
  · exact ⟨0, s, true, by simp [Num.curV, hd], by simpa [Num.curV, hd] using h1, h2, (fun h => by cases h), by simpa using hd⟩
theorem Num.text_back (m : Int) (s : ByteArray) (h : Num.xOk m s = true) : (Num.smallB (Num.xV s).size ++ Num.xV s) ++ s.extract (Num.xN s) s.size = s ∧ ((Num.xV s).size : Int) ≤ m := by
  have hx := h
  unfold Num.xOk at h
  simp only [Bool.and_eq_true, decide_eq_true_eq] at h
  obtain ⟨h0, h1, h2, h3⟩ := h
  obtain ⟨h4, -⟩ := Num.small_back s h0
  have hz : (Num.xV s).size = (Num.decp 0 0 s.data.toList).1 := by unfold Num.xV Num.xN; simp; omega
  refine ⟨?_, by omega⟩
  rw [hz, h4]
  unfold Num.xV
  have hl : s.data.toList.length = s.size := by simp
  have hN : (Num.decp 0 0 s.data.toList).2.1 ≤ Num.xN s := by unfold Num.xN; omega
  have hN2 : Num.xN s ≤ s.size := by unfold Num.xN; omega
  generalize (Num.decp 0 0 s.data.toList).2.1 = j at *
  generalize Num.xN s = N at *
  have e : s.extract 0 j ++ s.extract j N = s.extract 0 N := by
    apply ByteArray.ext; apply Array.toList_inj.1
    rw [Num.app_list]
    simp only [ByteArray.data_extract, Array.toList_extract, List.extract_eq_take_drop, List.drop_zero, Nat.sub_zero]
    rw [← List.take_add, show j + (N - j) = N from by omega]
  rw [e, Num.split_at]
end Go.Proofs.YtokofifecdpmfaaGreatDoor
