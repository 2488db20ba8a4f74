/-
  What package truth asks of labels and matchers, as packages label and match answer.
-/
import Derived.Test.YtidfanmfibbiiaaTrE
import Derived.Test.YtidfanmfibbiiaaTrP
namespace Go.Proofs.Ytidfanmfibbiiaa
open Go.RowKit
theorem listOf_at (L : List Lab) : La.listOf (La.at_ L) L.length = L := by
  unfold La.listOf La.at_
  apply List.ext_getElem?
  intro i
  by_cases h : i < L.length
  · simp [List.getElem?_range h, List.getD, List.getElem?_eq_getElem h]
  · rw [List.getElem?_eq_none (by simpa using h), List.getElem?_eq_none (by simpa using h)]
/-- labels and matchers as they are asked -/
def par : Tr.Par (List Lab) (List Mat) where
  nil := []
  right L := La.right (La.at_ L) L.length
  long L g := decide (La.limit g < La.longest (La.at_ L) L.length)
  less a b := La.less (La.keyB (La.at_ a) a.length) (La.keyB (La.at_ b) b.length)
  fit m L := Ma.all (fun i => m.getD i ⟨0, ByteArray.empty, ByteArray.empty⟩) m.length (La.at_ L) L.length
  mok m := Ma.allRight (fun i => m.getD i ⟨0, ByteArray.empty, ByteArray.empty⟩) m.length
theorem longest_le (f : Nat → Lab) (b : Nat) : ∀ n, (∀ i, i < n → (f i).1.size ≤ b ∧ (f i).2.size ≤ b) → La.longest f n ≤ b
  | 0, _ => by simp [La.longest]
  | n + 1, h => by
    have ih := longest_le f b n (fun i hi => h i (by omega))
    have := h n (by omega)
    unfold La.longest
    omega
theorem right_few {f : Nat → Lab} {n : Nat} (h : La.right f n = true) : 1 ≤ n ∧ n ≤ 6 ∧ ∀ i, i < n → (f i).1.size ≤ 48 ∧ (f i).2.size ≤ 48 := by
  obtain ⟨h1, h2, h3⟩ := La.right_parts h
  refine ⟨h1, h2, fun i hi => ?_⟩
  obtain ⟨a, b, -⟩ := h3 i hi
  unfold La.okName at a
  unfold La.okValue at b
  rw [Bool.and_eq_true] at a
  exact ⟨(La.allB_pos a.1).2, (La.allB_pos b).2⟩
theorem par_good : par.Good where
  irrefl a := La.less_irrefl _
  trans h1 h2 := La.less_trans h1 h2
  tri {a b} ha hb := by
    rcases La.less_tri (La.keyB (La.at_ a) a.length) (La.keyB (La.at_ b) b.length) with h | h | h
    · exact Or.inl h
    · refine Or.inr (Or.inl ?_)
      have := (La.key_inj ha hb).1 h
      rw [listOf_at, listOf_at] at this
      exact this
    · exact Or.inr (Or.inr h)
  long3 {a} h := by
    obtain ⟨-, -, h3⟩ := right_few h
    have h4 := longest_le (La.at_ a) 48 a.length h3
    have e : La.limit 3 = 48 := rfl
    refine decide_eq_false ?_
    rw [e]; omega
theorem fit_none (L : List Lab) : par.fit [] L = true := rfl
theorem mok_none : par.mok [] = true := rfl
end Go.Proofs.Ytidfanmfibbiiaa
