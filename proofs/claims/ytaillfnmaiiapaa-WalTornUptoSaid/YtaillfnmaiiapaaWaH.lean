/-
  What begins a file, read back.
-/
import Derived.Test.YtaillfnmaiiapaaFrH
import Derived.Test.YtaillfnmaiiapaaNumO
import Derived.Test.YtaillfnmaiiapaaFrN
namespace Go.Proofs.Ytaillfnmaiiapaa
open Go.RowKit
namespace Fr
theorem two_list (g f : Int) (hg : 0 ≤ g ∧ g ≤ 255) (hf : 0 ≤ f ∧ f ≤ 255) : (two g f).data.toList.map (fun b => b.toNat) = [g.toNat, f.toNat] := by
  unfold two
  rw [strOfNums_data]
  have h1 : g % 256 = g := by omega
  have h2 : f % 256 = f := by omega
  rw [h1, h2]
  simp
  omega
theorem at_right (a b : ByteArray) (i : Nat) : at_ (a ++ b) (a.size + i) = at_ b i := by
  unfold at_
  have h : a.data.toList.length = a.size := by simp
  rw [Num.app_list, List.getD_eq_getElem?_getD, List.getD_eq_getElem?_getD, List.getElem?_append_right (by omega), h]
  congr 2
  rw [Nat.add_sub_cancel_left]
theorem at_left (a b : ByteArray) (i : Nat) (hi : i < a.size) : at_ (a ++ b) i = at_ a i := by
  unfold at_
  have h : a.data.toList.length = a.size := by simp
  rw [Num.app_list, List.getD_eq_getElem?_getD, List.getD_eq_getElem?_getD, List.getElem?_append_left (by omega)]
theorem at_two (g f : Int) (hg : 0 ≤ g ∧ g ≤ 255) (hf : 0 ≤ f ∧ f ≤ 255) : at_ (two g f) 0 = g.toNat ∧ at_ (two g f) 1 = f.toNat := by
  have h := two_list g f hg hf
  have hl : (two g f).data.toList.length = 2 := by have := congrArg List.length h; simpa using this
  obtain ⟨a, b, e⟩ : ∃ a b, (two g f).data.toList = [a, b] := by
    generalize (two g f).data.toList = l at hl
    match l, hl with
    | [a, b], _ => exact ⟨a, b, rfl⟩
  unfold at_
  rw [e] at h ⊢
  simp at h
  exact ⟨by simpa using h.1, by simpa using h.2⟩
theorem opened_head (magic r : ByteArray) (g f : Int) (hg : 1 ≤ g ∧ g ≤ 3) (hf : 0 ≤ f ∧ f ≤ 3) : opened (head magic g f ++ r) magic = (g.toNat, f.toNat, r, 0) := by
  have h2 := two_size g f
  have h4 := Crc.four_size (Crc.ofB (magic ++ two g f))
  have hz := head_size magic g f
  have hm2 : (magic ++ two g f).size = magic.size + 2 := by rw [ByteArray.size_append, h2]
  obtain ⟨t0, t1⟩ := at_two g f (by omega) (by omega)
  have e1 : (head magic g f ++ r).extract 0 magic.size = magic := by
    unfold head
    rw [ByteArray.append_assoc, ByteArray.append_assoc]
    exact Num.take_app _ _
  have e2 : (head magic g f ++ r).extract (magic.size + 2) (magic.size + 2 + 4) = Crc.four (Crc.ofB (magic ++ two g f)) := by
    have := ext_mid (magic ++ two g f) (Crc.four (Crc.ofB (magic ++ two g f))) r
    rw [hm2, h4] at this
    exact this
  have e3 : (head magic g f ++ r).extract 0 (magic.size + 2) = magic ++ two g f := by
    unfold head
    rw [ByteArray.append_assoc, ← hm2]
    exact Num.take_app _ _
  have e4 : (head magic g f ++ r).extract (magic.size + 2 + 4) (head magic g f ++ r).size = r := by
    have := Num.drop_app (head magic g f) r
    rw [hz] at this
    exact this
  have a0 : at_ (head magic g f ++ r) magic.size = g.toNat := by
    unfold head
    rw [ByteArray.append_assoc, ByteArray.append_assoc]
    have := at_right magic (two g f ++ (Crc.four (Crc.ofB (magic ++ two g f)) ++ r)) 0
    rw [Nat.add_zero] at this
    rw [this, at_left _ _ _ (by omega), t0]
  have a1 : at_ (head magic g f ++ r) (magic.size + 1) = f.toNat := by
    unfold head
    rw [ByteArray.append_assoc, ByteArray.append_assoc, at_right magic _ 1, at_left _ _ _ (by omega), t1]
  unfold opened
  rw [if_neg (by rw [ByteArray.size_append, hz]; omega), e1, if_neg (by simp), e2, e3, if_neg (by simp), a0, a1, if_neg (by omega), if_neg (by omega), e4]
theorem opened_cases (s magic : ByteArray) : (opened s magic).2.2.2 = 0 ∨ (opened s magic).2.2.2 = 9 ∨ (opened s magic).2.2.2 = 10 := by
  unfold opened
  repeat' split
  all_goals simp
theorem opened_size (s magic : ByteArray) : (opened s magic).2.2.1.size ≤ s.size := by
  unfold opened
  repeat' split
  all_goals first | (simp; done) | (simp only [ByteArray.size_extract]; omega)
theorem opened_gen (s magic : ByteArray) (h : (opened s magic).2.2.2 = 0) : 1 ≤ (opened s magic).1 ∧ (opened s magic).1 ≤ 3 := by
  unfold opened at h ⊢
  split at h
  · simp at h
  split at h
  · simp at h
  split at h
  · simp at h
  split at h
  · simp at h
  split at h
  · simp at h
  rename_i h1 h2 h3 h4 h5
  rw [if_neg h1, if_neg h2, if_neg h3, if_neg h4, if_neg h5]
  dsimp only
  omega
end Fr
end Go.Proofs.Ytaillfnmaiiapaa
