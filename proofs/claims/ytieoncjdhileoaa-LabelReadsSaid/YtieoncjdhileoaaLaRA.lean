/-
  Labels: the mathematics of the reference's Of.
-/
import Derived.Test.YtieoncjdhileoaaLaR
namespace Go.Proofs.Ytieoncjdhileoaa
namespace La
/-- what the reference's loop comes to, with so much fuel -/
def rofLoop : Nat → List Lab → ByteArray → Option (List Lab)
  | 0, L, _ => some L
  | k + 1, L, s => if s.size = 0 then some L else if Num.xOk 48 s = true ∧ Num.xOk 48 (nx false s) = true then rofLoop k (L ++ [(nm false s, nm false (nx false s))]) (nx false (nx false s)) else none
theorem txt_pos (b : ByteArray) : 0 < (txt b).length := by
  have h1 : (Num.smallB b.size).size ≠ 0 := by
    have := Num.enc_length_pos 9 b.size
    have h2 : (Num.smallB b.size).size = (Num.small b.size).length := size_mk _
    rw [h2]; unfold Num.small; omega
  have h2 : (txt b).length = (Num.smallB b.size ++ b).size := by simp [txt]
  rw [h2, ByteArray.size_append]; omega
theorem rofLoop_key : ∀ (k : Nat) (L : List Lab) (s : ByteArray) (R : List Lab), s.size ≤ k → rofLoop k L s = some R → listKey R = listKey L ++ s.data.toList
  | 0, L, s, R, hk, h => by
    have hz : s.data.toList = [] := by apply List.eq_nil_of_length_eq_zero; rw [← Lib.size_eq]; omega
    cases h
    rw [hz, List.append_nil]
  | k + 1, L, s, R, hk, h => by
    unfold rofLoop at h
    split at h
    · rename_i hc
      have hz : s.data.toList = [] := by apply List.eq_nil_of_length_eq_zero; rw [← Lib.size_eq]; exact hc
      cases h
      rw [hz, List.append_nil]
    · split at h
      · rename_i hx
        have e1 := txt_back hx.1
        have e2 := txt_back hx.2
        have p1 := txt_pos (nm false s)
        have hl := congrArg List.length e1
        rw [List.length_append, ← Lib.size_eq, ← Lib.size_eq] at hl
        have h3 := nx_size false (nx false s)
        have ih := rofLoop_key k _ _ R (by omega) h
        rw [ih, e1, e2]; simp [listKey]
      · cases h
theorem rofLoop_list : ∀ (k : Nat) (M L : List Lab), (listKey M).length ≤ k → (∀ x ∈ M, x.1.size ≤ 48 ∧ x.2.size ≤ 48) → rofLoop k L ⟨(listKey M).toArray⟩ = some (L ++ M)
  | 0, [], L, _, _ => by rw [List.append_nil]; rfl
  | k + 1, [], L, _, _ => by rw [List.append_nil]; unfold rofLoop; exact if_pos rfl
  | 0, x :: M, L, h, _ => by
    have e : listKey (x :: M) = txt x.1 ++ (txt x.2 ++ listKey M) := by simp [listKey]
    have := txt_pos x.1
    rw [e, List.length_append] at h; omega
  | k + 1, x :: M, L, h, hs => by
    have e : listKey (x :: M) = txt x.1 ++ (txt x.2 ++ listKey M) := by simp [listKey]
    have hx := hs x (List.mem_cons_self ..)
    have hp := txt_pos x.1
    obtain ⟨h1, h2, h3⟩ := xOk_app x.1 (txt x.2 ++ listKey M) hx.1
    obtain ⟨g1, g2, g3⟩ := xOk_app x.2 (listKey M) hx.2
    obtain ⟨p1, p2, p3⟩ := nm_ok h1
    obtain ⟨q1, q2, q3⟩ := nm_ok g1
    have hlen : (listKey M).length ≤ k := by rw [e, List.length_append, List.length_append] at h; omega
    have hne : ¬ (⟨(listKey (x :: M)).toArray⟩ : ByteArray).size = 0 := by rw [size_mk, e, List.length_append]; omega
    unfold rofLoop
    rw [if_neg hne, e, p2, h3, if_pos ⟨h1, g1⟩, p1, h2, q1, g2, q2, g3]
    rw [rofLoop_list k M (L ++ [(x.1, x.2)]) hlen (fun y hy => hs y (List.mem_cons_of_mem _ hy))]
    simp
/-- the document's Of is the reference's -/
theorem of_rof (s : ByteArray) : of s = (rofLoop s.size [] s).filter rightL := by
  cases hr : rofLoop s.size [] s with
  | none =>
    cases ho : of s with
    | none => rfl
    | some M =>
      obtain ⟨h1, h2⟩ := of_key ho
      have hs := (right_parts (f := at_ M) (n := M.length) h1).2.2
      have hkl : listKey M = s.data.toList := by
        rw [← h2]; unfold keyB; rw [key_list, listOf_at]
      have := rofLoop_list s.size M [] (by rw [hkl, ← Lib.size_eq]; exact Nat.le_refl _) (fun x hx => by
        obtain ⟨i, hi, rfl⟩ := List.getElem_of_mem hx
        have e : at_ M i = M[i] := by simp [at_, List.getD, hi]
        have := hs i hi
        rw [e] at this
        exact ⟨(okName_size this.1).2, (allB_pos this.2.1).2⟩)
      rw [hkl, Lib.mk_data, hr] at this
      cases this
  | some L =>
    have hk := rofLoop_key s.size [] s L (Nat.le_refl _) hr
    have hk2 : keyB (at_ L) L.length = s := by
      unfold keyB; rw [key_list, listOf_at, hk]
      show (⟨([] ++ s.data.toList).toArray⟩ : ByteArray) = s
      rw [List.nil_append]
    cases hrl : rightL L
    · show of s = Option.filter rightL (some L)
      rw [Option.filter_some, hrl]
      cases ho : of s with
      | none => rfl
      | some M =>
        obtain ⟨h1, h2⟩ := of_key ho
        have hs := (right_parts (f := at_ M) (n := M.length) h1).2.2
        have hkl : listKey M = s.data.toList := by
          rw [← h2]; unfold keyB; rw [key_list, listOf_at]
        have := rofLoop_list s.size M [] (by rw [hkl, ← Lib.size_eq]; exact Nat.le_refl _) (fun x hx => by
          obtain ⟨i, hi, rfl⟩ := List.getElem_of_mem hx
          have e : at_ M i = M[i] := by simp [at_, List.getD, hi]
          have := hs i hi
          rw [e] at this
          exact ⟨(okName_size this.1).2, (allB_pos this.2.1).2⟩)
        rw [hkl, Lib.mk_data, hr] at this
        cases this
        rw [List.nil_append] at hrl
        rw [h1] at hrl; cases hrl
    · have := of_of_key (f := at_ L) (n := L.length) hrl
      rw [hk2, listOf_at] at this
      rw [this]
      show some L = Option.filter rightL (some L)
      rw [Option.filter_some, hrl]; rfl
end La
end Go.Proofs.Ytieoncjdhileoaa
