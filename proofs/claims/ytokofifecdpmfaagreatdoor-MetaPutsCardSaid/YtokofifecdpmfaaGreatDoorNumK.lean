/-
  What is written is read again: the mathematics.
-/
import Derived.Test.YtokofifecdpmfaaGreatDoorNumL
namespace Go.Proofs.YtokofifecdpmfaaGreatDoor
open Go.RowKit
namespace Num

theorem decp_get (l : List UInt8) (n k : Nat) (h : get l = some (n, k)) : decp 0 0 l = (n, k, true) := by
  unfold get at h
  rw [decp_dec] at h
  split at h
  · next h2 =>
    simp only [Option.some.injEq, Prod.mk.injEq] at h
    obtain ⟨h3, h4⟩ := h
    calc decp 0 0 l = ((decp 0 0 l).1, (decp 0 0 l).2.1, (decp 0 0 l).2.2) := rfl
      _ = (n, k, true) := by rw [h3, h4, h2]
  · simp at h
theorem app_list (a b : ByteArray) : (a ++ b).data.toList = a.data.toList ++ b.data.toList := by simp
theorem decp_small (n : Nat) (hn : n < 18446744073709551616) (r : ByteArray) : decp 0 0 (smallB n ++ r).data.toList = (n, (smallB n).size, true) := by
  rw [app_list]
  exact decp_get _ _ _ (get_small n hn r.data.toList)
theorem drop_app (a b : ByteArray) : (a ++ b).extract a.size (a ++ b).size = b := by
  apply ByteArray.ext; apply Array.toList_inj.1
  have h1 : a.data.toList.length = a.size := by simp
  have h2 : b.data.toList.length = b.size := by simp
  simp only [ByteArray.data_extract, Array.toList_extract, List.extract_eq_take_drop, app_list, ByteArray.size_append]
  rw [List.drop_left' h1, List.take_of_length_le (by omega)]
theorem take_app (a b : ByteArray) : (a ++ b).extract 0 a.size = a := by
  apply ByteArray.ext; apply Array.toList_inj.1
  have h1 : a.data.toList.length = a.size := by simp
  simp [ByteArray.data_extract, Array.toList_extract]
  rw [List.take_of_length_le (by omega)]
theorem num_le (n : Nat) : ∀ k, num (le n k) = n % 256 ^ k
  | 0 => by simp [le, num, Nat.mod_one]
  | k + 1 => by
    rw [le, num_append, num_le n k, le_length]
    have h1 : num [UInt8.ofNat (n / 256 ^ k % 256)] = n / 256 ^ k % 256 := by simp [num]
    rw [h1, Nat.pow_succ, Nat.mod_mul]
theorem num_wide (n : Nat) (hn : n < 18446744073709551616) (r : ByteArray) : num ((wideB n ++ r).data.toList.take 8) = n := by
  rw [app_list, List.take_left' (show (wideB n).data.toList.length = 8 from le_length n 8)]
  show num (le n 8) = n
  rw [num_le]
  exact Nat.mod_eq_of_lt hn
theorem text_app (t r : ByteArray) (ht : t.size ≤ 300) : xOk (t.size : Nat) ((smallB t.size ++ t) ++ r) = true ∧ xV ((smallB t.size ++ t) ++ r) = t ∧ xN ((smallB t.size ++ t) ++ r) = (smallB t.size ++ t).size := by
  have h := decp_small t.size (by omega) (t ++ r)
  rw [← ByteArray.append_assoc] at h
  have hn : xN ((smallB t.size ++ t) ++ r) = (smallB t.size ++ t).size := by
    unfold xN; rw [h, ByteArray.size_append]
  refine ⟨?_, ?_, hn⟩
  · unfold xOk
    rw [h]
    simp [ByteArray.size_append]; omega
  · unfold xV
    rw [hn, h, ByteArray.append_assoc]
    have h1 : (smallB t.size).data.toList.length = (smallB t.size).size := by simp
    have h2 : t.data.toList.length = t.size := by simp
    apply ByteArray.ext; apply Array.toList_inj.1
    simp only [ByteArray.data_extract, Array.toList_extract, List.extract_eq_take_drop, app_list, ByteArray.size_append]
    rw [List.drop_left' h1, List.take_left' (by omega)]
theorem fixed_at (t r : ByteArray) (z : Nat) (_hz : z ≤ 255) : byteAt (fixedB t z ++ r) z = min z t.size := by
  unfold byteAt
  rw [app_list]
  show ((fixL t.data.toList z ++ r.data.toList).getD z 0).toNat = _
  have h1 : t.data.toList.length = t.size := by simp
  have h2 : (t.data.toList.take z ++ List.replicate (z - (t.data.toList.take z).length) (0 : UInt8)).length = z := by simp; omega
  unfold fixL
  rw [List.append_assoc, List.getD_eq_getElem?_getD, List.getElem?_append_right (by omega), h2]
  simp
  omega
theorem fixed_app (t r : ByteArray) (z : Nat) (hz : z ≤ 255) : fAll z (fixedB t z ++ r) = true ∧ fT z (fixedB t z ++ r) = t.extract 0 z ∧ fN z (fixedB t z ++ r) = (fixedB t z).size := by
  have h0 := fixedB_size t z
  have h1 := fixed_at t r z hz
  have hc : z < (fixedB t z ++ r).size ∧ byteAt (fixedB t z ++ r) z ≤ z := by rw [h1, ByteArray.size_append]; omega
  have hl : t.data.toList.length = t.size := by simp
  have hv : fV z (fixedB t z ++ r) = t.extract 0 z := by
    unfold fV
    rw [h1]
    apply ByteArray.ext; apply Array.toList_inj.1
    simp only [ByteArray.data_extract, Array.toList_extract, List.extract_eq_take_drop, app_list, List.drop_zero, Nat.sub_zero]
    show (fixL t.data.toList z ++ r.data.toList).take (min z t.size) = _
    unfold fixL
    rw [List.append_assoc, List.append_assoc, List.take_left' (by simp)]
  refine ⟨?_, ?_, ?_⟩
  · unfold fAll fOk
    rw [hv, show z + 1 = (fixedB t z).size from h0.symm, take_app]
    have : fixedB (t.extract 0 z) z = fixedB t z := by
      unfold fixedB
      congr 2
      simp only [ByteArray.data_extract, Array.toList_extract, List.extract_eq_take_drop, List.drop_zero, Nat.sub_zero]
      unfold fixL
      rw [List.take_take, Nat.min_self]
    simp only [this, decide_true, Bool.and_true, decide_eq_true_eq]
    exact hc
  · unfold fT; rw [if_pos hc, hv]
  · unfold fN; rw [if_pos hc, h0]
end Num
end Go.Proofs.YtokofifecdpmfaaGreatDoor
