import Derived.Test.YtaillfnmaiiapaaNumG
import Derived.Test.YtaillfnmaiiapaaOwnM
import Derived.Deep.DeepCutAuto
/-
  What the functions of the reference alluviumref03 come to: Small, Wide, Text, Zig, Zag.
-/
namespace Go.Proofs.Ytaillfnmaiiapaa
open Go.RowKit

theorem Try.info5 : (Try.prog.info? 5).map (fun i => (i.zero, i.size, i.bytes)) = some (some (.int .u8 0), 1, 1) := by kernel_rfl

theorem Num.wrap_div128 (m : Nat) (h : m < 18446744073709551616) : IntKind.u64.wrap ((m : Int) / 128) = (m : Int) / 128 := by
  rw [IntKind.wrap_u64]; omega
theorem Num.wrap_div256 (m : Nat) (h : m < 18446744073709551616) : IntKind.u64.wrap ((m : Int) / 256) = (m : Int) / 256 := by
  rw [IntKind.wrap_u64]; omega

theorem Num.small_size (n : Nat) : (smallB n).size ≤ 10 := Num.enc_length_le 9 _

end Go.Proofs.Ytaillfnmaiiapaa
/-
  What the functions of the reference alluviumref03 come to: Fixed.
-/
namespace Go.Proofs.Ytaillfnmaiiapaa
open Go.RowKit

def rowLen : Value → Nat
  | .slice _ n _ => n
  | _ => 0

end Go.Proofs.Ytaillfnmaiiapaa
/-
  NumPuts, NumZig, NumSizes: the walks of the laws, given what works comes to.
-/
namespace Go.Proofs.Ytaillfnmaiiapaa
open Go.RowKit

theorem u64_nat (c : Int) (h : (Lit.int .u64 c).wf = true) : ∃ n : Nat, c = n ∧ Hid (n < 18446744073709551616) := by
  have hx : 0 ≤ c ∧ c ≤ 18446744073709551615 := by simpa [Lit.wf, IntKind.min, IntKind.max, IntKind.signed, IntKind.bits] using h
  exact ⟨c.toNat, by omega, Lib.hid (by omega)⟩
theorem i64_bd (c : Int) (h : (Lit.int .i64 c).wf = true) : Hid (-9223372036854775808 ≤ c ∧ c ≤ 9223372036854775807) := by
  have hx : -9223372036854775808 ≤ c ∧ c ≤ 9223372036854775807 := by simpa [Lit.wf, IntKind.min, IntKind.max, IntKind.signed, IntKind.bits] using h
  exact Lib.hid hx

theorem Num.small_pos (n : Nat) : 1 ≤ (smallB n).size := Num.enc_length_pos 9 _
theorem Num.small_mono (a b : Nat) (h : a ≤ b) : (smallB a).size ≤ (smallB b).size := Num.enc_mono 9 a b h
theorem Num.wideB_size (n : Nat) : (wideB n).size = 8 := Num.le_length _ _

end Go.Proofs.Ytaillfnmaiiapaa
/-
  What is written is read again: the mathematics.
-/
namespace Go.Proofs.Ytaillfnmaiiapaa
open Go.RowKit
namespace Num

theorem decp_get (l : List UInt8) (n k : Nat) (h : get l = some (n, k)) : decp 0 0 l = (n, k, true) := by
  unfold get at h
  rw [decp_dec] at h
  split at h
  · next h2 =>
    simp only [Option.some.injEq, Prod.mk.injEq] at h
    obtain ⟨h3, h4⟩ := h
    calc decp 0 0 l = ((decp 0 0 l).1, (decp 0 0 l).2.1, (decp 0 0 l).2.2) := rfl
      _ = (n, k, true) := by rw [h3, h4, h2]
  · simp at h
theorem app_list (a b : ByteArray) : (a ++ b).data.toList = a.data.toList ++ b.data.toList := by simp
theorem decp_small (n : Nat) (hn : n < 18446744073709551616) (r : ByteArray) : decp 0 0 (smallB n ++ r).data.toList = (n, (smallB n).size, true) := by
  rw [app_list]
  exact decp_get _ _ _ (get_small n hn r.data.toList)
theorem drop_app (a b : ByteArray) : (a ++ b).extract a.size (a ++ b).size = b := by
  apply ByteArray.ext; apply Array.toList_inj.1
  have h1 : a.data.toList.length = a.size := by simp
  have h2 : b.data.toList.length = b.size := by simp
  simp only [ByteArray.data_extract, Array.toList_extract, List.extract_eq_take_drop, app_list, ByteArray.size_append]
  rw [List.drop_left' h1, List.take_of_length_le (by omega)]
theorem take_app (a b : ByteArray) : (a ++ b).extract 0 a.size = a := by
  apply ByteArray.ext; apply Array.toList_inj.1
  have h1 : a.data.toList.length = a.size := by simp
  simp [ByteArray.data_extract, Array.toList_extract]
  rw [List.take_of_length_le (by omega)]
theorem num_le (n : Nat) : ∀ k, num (le n k) = n % 256 ^ k
  | 0 => by simp [le, num, Nat.mod_one]
  | k + 1 => by
    rw [le, num_append, num_le n k, le_length]
    have h1 : num [UInt8.ofNat (n / 256 ^ k % 256)] = n / 256 ^ k % 256 := by simp [num]
    rw [h1, Nat.pow_succ, Nat.mod_mul]
theorem num_wide (n : Nat) (hn : n < 18446744073709551616) (r : ByteArray) : num ((wideB n ++ r).data.toList.take 8) = n := by
  rw [app_list, List.take_left' (show (wideB n).data.toList.length = 8 from le_length n 8)]
  show num (le n 8) = n
  rw [num_le]
  exact Nat.mod_eq_of_lt hn
theorem text_app (t r : ByteArray) (ht : t.size ≤ 300) : xOk (t.size : Nat) ((smallB t.size ++ t) ++ r) = true ∧ xV ((smallB t.size ++ t) ++ r) = t ∧ xN ((smallB t.size ++ t) ++ r) = (smallB t.size ++ t).size := by
  have h := decp_small t.size (by omega) (t ++ r)
  rw [← ByteArray.append_assoc] at h
  have hn : xN ((smallB t.size ++ t) ++ r) = (smallB t.size ++ t).size := by
    unfold xN; rw [h, ByteArray.size_append]
  refine ⟨?_, ?_, hn⟩
  · unfold xOk
    rw [h]
    simp [ByteArray.size_append]; omega
  · unfold xV
    rw [hn, h, ByteArray.append_assoc]
    have h1 : (smallB t.size).data.toList.length = (smallB t.size).size := by simp
    have h2 : t.data.toList.length = t.size := by simp
    apply ByteArray.ext; apply Array.toList_inj.1
    simp only [ByteArray.data_extract, Array.toList_extract, List.extract_eq_take_drop, app_list, ByteArray.size_append]
    rw [List.drop_left' h1, List.take_left' (by omega)]
theorem fixed_at (t r : ByteArray) (z : Nat) (_hz : z ≤ 255) : byteAt (fixedB t z ++ r) z = min z t.size := by
  unfold byteAt
  rw [app_list]
  show ((fixL t.data.toList z ++ r.data.toList).getD z 0).toNat = _
  have h1 : t.data.toList.length = t.size := by simp
  have h2 : (t.data.toList.take z ++ List.replicate (z - (t.data.toList.take z).length) (0 : UInt8)).length = z := by simp; omega
  unfold fixL
  rw [List.append_assoc, List.getD_eq_getElem?_getD, List.getElem?_append_right (by omega), h2]
  simp
  omega
theorem fixed_app (t r : ByteArray) (z : Nat) (hz : z ≤ 255) : fAll z (fixedB t z ++ r) = true ∧ fT z (fixedB t z ++ r) = t.extract 0 z ∧ fN z (fixedB t z ++ r) = (fixedB t z).size := by
  have h0 := fixedB_size t z
  have h1 := fixed_at t r z hz
  have hc : z < (fixedB t z ++ r).size ∧ byteAt (fixedB t z ++ r) z ≤ z := by rw [h1, ByteArray.size_append]; omega
  have hl : t.data.toList.length = t.size := by simp
  have hv : fV z (fixedB t z ++ r) = t.extract 0 z := by
    unfold fV
    rw [h1]
    apply ByteArray.ext; apply Array.toList_inj.1
    simp only [ByteArray.data_extract, Array.toList_extract, List.extract_eq_take_drop, app_list, List.drop_zero, Nat.sub_zero]
    show (fixL t.data.toList z ++ r.data.toList).take (min z t.size) = _
    unfold fixL
    rw [List.append_assoc, List.append_assoc, List.take_left' (by simp)]
  refine ⟨?_, ?_, ?_⟩
  · unfold fAll fOk
    rw [hv, show z + 1 = (fixedB t z).size from h0.symm, take_app]
    have : fixedB (t.extract 0 z) z = fixedB t z := by
      unfold fixedB
      congr 2
      simp only [ByteArray.data_extract, Array.toList_extract, List.extract_eq_take_drop, List.drop_zero, Nat.sub_zero]
      unfold fixL
      rw [List.take_take, Nat.min_self]
    simp only [this, decide_true, Bool.and_true, decide_eq_true_eq]
    exact hc
  · unfold fT; rw [if_pos hc, hv]
  · unfold fN; rw [if_pos hc, h0]
end Num
end Go.Proofs.Ytaillfnmaiiapaa
/-
  Nothing else is read: the mathematics, and the cursor's calls told so.
-/
namespace Go.Proofs.Ytaillfnmaiiapaa
open Go.RowKit
namespace Num

theorem split_at (s : ByteArray) (k : Nat) : s.extract 0 k ++ s.extract k s.size = s := by
  have h : s.data.toList.length = s.size := by simp
  apply ByteArray.ext; apply Array.toList_inj.1
  rw [app_list]
  simp only [ByteArray.data_extract, Array.toList_extract, List.extract_eq_take_drop, List.drop_zero, Nat.sub_zero]
  rw [List.take_of_length_le (l := List.drop k _) (by simp), List.take_append_drop]
theorem small_back (s : ByteArray) (h : (decp 0 0 s.data.toList).2.2 = true) : smallB (decp 0 0 s.data.toList).1 = s.extract 0 (decp 0 0 s.data.toList).2.1 ∧ (decp 0 0 s.data.toList).1 < 18446744073709551616 := by
  have hg : get s.data.toList = some ((decp 0 0 s.data.toList).1, (decp 0 0 s.data.toList).2.1) := by
    unfold get; rw [decp_dec, if_pos h]
  obtain ⟨h1, _, _, h4⟩ := small_get _ _ _ hg
  refine ⟨?_, h4⟩
  apply ByteArray.ext; apply Array.toList_inj.1
  simp only [ByteArray.data_extract, Array.toList_extract, List.extract_eq_take_drop, List.drop_zero, Nat.sub_zero]
  exact h1
theorem num_bound (l : List UInt8) : num l < 256 ^ l.length := num_lt l
theorem le_cons (b : UInt8) (n : Nat) : ∀ k, le (b.toNat + 256 * n) (k + 1) = b :: le n k
  | 0 => by simp [le]
  | k + 1 => by
    have hb := b.toNat_lt
    have h1 : (b.toNat + 256 * n) / 256 ^ (k + 1) = n / 256 ^ k := by
      rw [Nat.pow_succ, Nat.mul_comm (256 ^ k), ← Nat.div_div_eq_div_mul]
      congr 1; omega
    rw [le, le_cons b n k, h1, le]
    simp
theorem le_num : ∀ l : List UInt8, le (num l) l.length = l
  | [] => rfl
  | b :: r => by rw [List.length_cons, num, le_cons, le_num r]
theorem wide_back (s : ByteArray) (h : 8 ≤ s.size) : wideB (num (s.data.toList.take 8)) = s.extract 0 8 ∧ num (s.data.toList.take 8) < 18446744073709551616 := by
  have hl : (s.data.toList.take 8).length = 8 := by simp; omega
  constructor
  · apply ByteArray.ext; apply Array.toList_inj.1
    simp only [ByteArray.data_extract, Array.toList_extract, List.extract_eq_take_drop, List.drop_zero, Nat.sub_zero]
    show le (num (s.data.toList.take 8)) 8 = _
    have := le_num (s.data.toList.take 8)
    rw [hl] at this
    exact this
  · have := num_lt (s.data.toList.take 8)
    rw [hl] at this
    exact this
end Num

theorem curSmall_or (b : Nat) (s : ByteArray) (hs : s.size ≤ maxLen) (w : World) (hc : CurAt b s false w) :
    Calls Try.prog 87 #[.pointer (some ⟨b, 0, none⟩)] w fun e w' => ∃ (n : Nat) (r : ByteArray) (bad : Bool), e = .returned (.int .u64 n) ∧ CurAt b r bad w' ∧ w.grownBy w' (some b) ∧ n < 18446744073709551616 ∧ (bad = false → Num.smallB n ++ r = s) ∧ bad = !(Num.decp 0 0 s.data.toList).2.2 := by
  refine (curSmall b s hs false w hc).mono ?_
  rintro e w' ⟨rfl, h1, h2⟩
  by_cases hd : (Num.decp 0 0 s.data.toList).2.2 = true
  · obtain ⟨h3, h4⟩ := Num.small_back s hd
    refine ⟨(Num.decp 0 0 s.data.toList).1, s.extract (Num.decp 0 0 s.data.toList).2.1 s.size, false, by simp [Num.curV, hd], by simpa [Num.curV, hd] using h1, h2, h4, fun _ => ?_, by simp [hd]⟩
    rw [h3, Num.split_at]
  · exact ⟨0, s, true, by simp [Num.curV, hd], by simpa [Num.curV, hd] using h1, h2, by decide, (fun h => by cases h), by simpa using hd⟩
theorem curWide_or (b : Nat) (s : ByteArray) (hs : s.size ≤ maxLen) (w : World) (hc : CurAt b s false w) :
    Calls Try.prog 69 #[.pointer (some ⟨b, 0, none⟩)] w fun e w' => ∃ (n : Nat) (r : ByteArray) (bad : Bool), e = .returned (.int .u64 n) ∧ CurAt b r bad w' ∧ w.grownBy w' (some b) ∧ (bad = false → Num.wideB n ++ r = s) ∧ bad = !decide (8 ≤ s.size) := by
  refine (curWide b s hs false w hc).mono ?_
  rintro e w' ⟨rfl, h1, h2⟩
  by_cases hd : 8 ≤ s.size
  · obtain ⟨h3, h4⟩ := Num.wide_back s hd
    refine ⟨Num.num (s.data.toList.take 8), s.extract 8 s.size, false, by simp [Num.curV, hd], by simpa [Num.curV, hd] using h1, h2, fun _ => ?_, by simp [hd]⟩
    rw [h3, Num.split_at]
  · exact ⟨0, s, true, by simp [Num.curV, hd], by simpa [Num.curV, hd] using h1, h2, (fun h => by cases h), by simpa using hd⟩
theorem Num.text_back (m : Int) (s : ByteArray) (h : Num.xOk m s = true) : (Num.smallB (Num.xV s).size ++ Num.xV s) ++ s.extract (Num.xN s) s.size = s ∧ ((Num.xV s).size : Int) ≤ m := by
  have hx := h
  unfold Num.xOk at h
  simp only [Bool.and_eq_true, decide_eq_true_eq] at h
  obtain ⟨h0, h1, h2, h3⟩ := h
  obtain ⟨h4, -⟩ := Num.small_back s h0
  have hz : (Num.xV s).size = (Num.decp 0 0 s.data.toList).1 := by unfold Num.xV Num.xN; simp; omega
  refine ⟨?_, by omega⟩
  rw [hz, h4]
  unfold Num.xV
  have hl : s.data.toList.length = s.size := by simp
  have hN : (Num.decp 0 0 s.data.toList).2.1 ≤ Num.xN s := by unfold Num.xN; omega
  have hN2 : Num.xN s ≤ s.size := by unfold Num.xN; omega
  generalize (Num.decp 0 0 s.data.toList).2.1 = j at *
  generalize Num.xN s = N at *
  have e : s.extract 0 j ++ s.extract j N = s.extract 0 N := by
    apply ByteArray.ext; apply Array.toList_inj.1
    rw [Num.app_list]
    simp only [ByteArray.data_extract, Array.toList_extract, List.extract_eq_take_drop, List.drop_zero, Nat.sub_zero]
    rw [← List.take_add, show j + (N - j) = N from by omega]
  rw [e, Num.split_at]
theorem curText_or (b : Nat) (s : ByteArray) (hs : s.size ≤ 300) (m : Int) (hm : Hid (-9223372036854775808 ≤ m ∧ m ≤ 9223372036854775807)) (w : World) (hc : CurAt b s false w) :
    Calls Try.prog 97 #[.pointer (some ⟨b, 0, none⟩), .int .i64 m] w fun e w' => ∃ (t r : ByteArray) (bad : Bool), e = .returned (.string t) ∧ CurAt b r bad w' ∧ w.grownBy w' (some b) ∧ t.size ≤ 300 ∧ (bad = false → (Num.smallB t.size ++ t) ++ r = s ∧ (t.size : Int) ≤ m) := by
  refine (curText b s (by unfold maxLen; omega) false m hm w hc).mono ?_
  rintro e w' ⟨rfl, h1, h2⟩
  by_cases hd : Num.xOk m s = true
  · refine ⟨Num.xV s, s.extract (Num.xN s) s.size, false, by simp [Num.curV, hd], by simpa [Num.curV, hd] using h1, h2, ?_, fun _ => Num.text_back m s hd⟩
    unfold Num.xV; simp; omega
  · exact ⟨ByteArray.empty, s, true, by simp [Num.curV, hd], by simpa [Num.curV, hd] using h1, h2, by simp, fun h => by cases h⟩
theorem curFixed_or (b : Nat) (s : ByteArray) (hs : s.size ≤ 300) (k : Int) (w : World) (hc : CurAt b s false w) :
    Calls Try.prog 70 #[.pointer (some ⟨b, 0, none⟩), .int .i64 k] w fun e w' => ∃ (t r : ByteArray) (bad : Bool), e = .returned (.string t) ∧ CurAt b r bad w' ∧ w.grownBy w' (some b) ∧ t.size ≤ maxLen ∧ (bad = false → Num.fixedB t (Num.sz k) ++ r = s) := by
  refine (curFixed b s (by unfold maxLen; omega) false k w hc).mono ?_
  rintro e w' ⟨rfl, h1, h2⟩
  generalize Num.sz k = z at *
  by_cases hd : Num.fAll z s = true
  · have hx := hd
    unfold Num.fAll at hx
    simp only [Bool.and_eq_true, decide_eq_true_eq] at hx
    obtain ⟨h3, h4⟩ := hx
    have hT : Num.fT z s = Num.fV z s := by unfold Num.fT; rw [if_pos h3]
    have hN : Num.fN z s = z + 1 := by unfold Num.fN; rw [if_pos h3]
    refine ⟨Num.fT z s, s.extract (Num.fN z s) s.size, false, by simp [Num.curV, hd], by simpa [Num.curV, hd] using h1, h2, ?_, fun _ => ?_⟩
    · rw [hT]; unfold Num.fV maxLen; simp; omega
    · unfold Num.fOk at h4
      rw [hT, of_decide_eq_true h4, hN, Num.split_at]
  · exact ⟨ByteArray.empty, s, true, by simp [Num.curV, hd], by simpa [Num.curV, hd] using h1, h2, by simp [maxLen], fun h => by cases h⟩
end Go.Proofs.Ytaillfnmaiiapaa
