/-
  Labels without one of them: the mathematics, and the cells.
-/
import Derived.Test.YtieoncjdhileoaaLaP
namespace Go.Proofs.Ytieoncjdhileoaa
open Go.RowKit
namespace La
/-- all but the one at k -/
def without (f : Nat → Lab) (n k : Nat) : List Lab := listOf f k ++ listOf (fun i => f (k + 1 + i)) (n - (k + 1))
theorem without_length (f : Nat → Lab) {n k : Nat} (h : k < n) : (without f n k).length = n - 1 := by
  unfold without; rw [List.length_append, listOf_length, listOf_length]; omega
theorem at_without (f : Nat → Lab) {n k i : Nat} (h : k < n) (hi : i < n - 1) : at_ (without f n k) i = if i < k then f i else f (i + 1) := by
  unfold at_ without
  rw [List.getD]
  by_cases hk : i < k
  · rw [if_pos hk, List.getElem?_append_left (by rw [listOf_length]; exact hk)]
    simp [listOf, hk]
  · rw [if_neg hk, List.getElem?_append_right (by rw [listOf_length]; omega), listOf_length]
    have h2 : i - k < n - (k + 1) := by omega
    simp [listOf, h2]
    congr 1; omega
theorem right_up {f : Nat → Lab} {n : Nat} (h : right f n = true) (i : Nat) : ∀ j, i < j → j < n → less (f i).1 (f j).1 = true
  | 0, h1, _ => by omega
  | j + 1, h1, h2 => by
    obtain ⟨_, _, h3⟩ := right_parts h
    have hs : less (f j).1 (f (j + 1)).1 = true := by
      rcases (h3 (j + 1) h2).2.2 with e | e
      · omega
      · exact e
    rcases Nat.lt_or_ge i j with h4 | h4
    · exact less_trans (right_up h i j h4 (by omega)) hs
    · rw [show i = j from by omega]; exact hs
theorem without_right {f : Nat → Lab} {n k : Nat} (h : right f n = true) (h2 : 2 ≤ n) (hk : k < n) : right (at_ (without f n k)) (n - 1) = true := by
  obtain ⟨p1, p2, p3⟩ := right_parts h
  apply right_yes _ _ (by omega) (by omega)
  rw [List.all_eq_true]
  intro i hi
  have hi := List.mem_range.1 hi
  unfold okAt
  rw [at_without f hk hi]
  have hm : ∀ m, m < n → okName (f m).1 = true ∧ okValue (f m).2 = true := fun m hm => ⟨(p3 m hm).1, (p3 m hm).2.1⟩
  have hall : okName (if i < k then f i else f (i + 1)).1 = true ∧ okValue (if i < k then f i else f (i + 1)).2 = true := by
    split
    · exact hm i (by omega)
    · exact hm (i + 1) (by omega)
  rw [hall.1, hall.2]
  rcases Nat.eq_zero_or_pos i with rfl | hp
  · rfl
  · rw [at_without f hk (by omega)]
    have : less (if i - 1 < k then f (i - 1) else f (i - 1 + 1)).1 (if i < k then f i else f (i + 1)).1 = true := by
      split
      · split
        · exact right_up h _ _ (by omega) (by omega)
        · exact right_up h _ _ (by omega) (by omega)
      · split
        · exact right_up h _ _ (by omega) (by omega)
        · exact right_up h _ _ (by omega) (by omega)
    rw [this]; simp
theorem without_in {f : Nat → Lab} {n k i : Nat} (hk : k < n) (hi : i < n - 1) : ∃ j, j < n ∧ j ≠ k ∧ at_ (without f n k) i = f j := by
  rw [at_without f hk hi]
  split
  · exact ⟨i, by omega, by omega, rfl⟩
  · exact ⟨i + 1, by omega, by omega, rfl⟩
theorem without_longest {f : Nat → Lab} {n k : Nat} (hk : k < n) : longest (at_ (without f n k)) (n - 1) ≤ longest f n :=
  longest_le _ _ _ (fun i hi => by
    obtain ⟨j, hj, _, e⟩ := without_in (f := f) hk hi
    rw [e]; exact longest_ge f n j hj)
theorem get_none (g : Nat → Lab) (name : ByteArray) : ∀ m i, (∀ j, i ≤ j → j < i + m → (g j).1 ≠ name) → get g name m i = ByteArray.empty
  | 0, _, _ => rfl
  | m + 1, i, h => by
    rw [get, if_neg (h i (Nat.le_refl _) (by omega))]
    exact get_none g name m (i + 1) (fun j h1 h2 => h j (by omega) (by omega))
theorem without_get {f : Nat → Lab} {n k : Nat} (h : right f n = true) (hk : k < n) : get (at_ (without f n k)) (f k).1 (n - 1) 0 = ByteArray.empty := by
  apply get_none
  intro j _ hj e
  obtain ⟨m, hm, hne, e2⟩ := without_in (f := f) hk (show j < n - 1 by omega)
  rw [e2] at e
  rcases Nat.lt_or_gt_of_ne hne with h1 | h1
  · have := right_up h m k h1 hk
    rw [e, less_irrefl] at this; cases this
  · have := right_up h k m h1 hm
    rw [e, less_irrefl] at this; cases this
end La
theorem lab_news {w : World} {ad : Addr} {n : Nat} {f : Nat → Lab} (h : LabRow w (some ad) n f) (o m : Nat) (hm : o + m ≤ n) :
    ∀ j u, (labCells (La.listOf (fun i => f (o + i)) m))[j]? = some u → w.cell? (ad.add (o * 2 + j)) = some u := by
  intro j u hu
  have hj : j < m * 2 := by
    have := (List.getElem?_eq_some_iff.1 hu).1
    rw [labCells_length, La.listOf_length] at this; exact this
  obtain ⟨ad2, e, _, hc⟩ := h (by omega)
  cases e
  obtain ⟨c0, c1⟩ := hc (o + j / 2) (by omega)
  have hl : j / 2 < (La.listOf (fun i => f (o + i)) m).length := by rw [La.listOf_length]; omega
  have hg := labCells_get (La.listOf (fun i => f (o + i)) m) (j / 2) hl
  have he : (La.listOf (fun i => f (o + i)) m)[j / 2] = f (o + j / 2) := by simp [La.listOf]
  rw [he] at hg
  rcases Nat.mod_two_eq_zero_or_one j with h2 | h2
  · rw [show j = j / 2 * 2 from by omega, hg.1] at hu
    cases hu
    rw [show o * 2 + j = (o + j / 2) * 2 from by omega]; exact c0
  · rw [show j = j / 2 * 2 + 1 from by omega, hg.2] at hu
    cases hu
    rw [show o * 2 + j = (o + j / 2) * 2 + 1 from by omega]; exact c1
theorem lab_one (L : List Lab) : ∀ u ∈ labCells L, u.oneCell' = true := by
  intro u hu
  obtain ⟨x, _, hx⟩ := List.mem_flatMap.1 hu
  simp at hx
  rcases hx with rfl | rfl <;> rfl
end Go.Proofs.Ytieoncjdhileoaa
