/-
  The things that are wanted: the mathematics of package match's ranges.
-/
import Derived.Test.YtidfanmfibbiiaaBase
namespace Go.Proofs.Ytidfanmfibbiiaa
namespace Ma
/-- the places of those that are wanted -/
def sel (b : Nat → Bool) (n : Nat) : List Nat := (List.range n).filter b
def nwF (b : Nat → Bool) : Nat → Nat → Nat
  | 0, p => p
  | k + 1, p => if b p = true then p else nwF b k (p + 1)
/-- the next one, from a place on -/
def nw (b : Nat → Bool) (n p : Nat) : Nat := nwF b (n - p) p
theorem nw_yes {b : Nat → Bool} {n p : Nat} (h : p < n) (hb : b p = true) : nw b n p = p := by
  unfold nw
  rw [show n - p = (n - p - 1) + 1 from by omega, nwF, if_pos hb]
theorem nw_no {b : Nat → Bool} {n p : Nat} (h : p < n) (hb : b p = false) : nw b n p = nw b n (p + 1) := by
  unfold nw
  rw [show n - p = (n - (p + 1)) + 1 from by omega, nwF, if_neg (by rw [hb]; decide)]
theorem nw_end {b : Nat → Bool} {n p : Nat} (h : n ≤ p) : nw b n p = p := by
  unfold nw
  rw [show n - p = 0 from by omega, nwF]
theorem sel_yes {b : Nat → Bool} {p : Nat} (h : b p = true) : sel b (p + 1) = sel b p ++ [p] := by
  unfold sel; rw [List.range_succ, List.filter_append]; simp [h]
theorem sel_no {b : Nat → Bool} {p : Nat} (h : b p = false) : sel b (p + 1) = sel b p := by
  unfold sel; rw [List.range_succ, List.filter_append]; simp [h]
theorem nwF_spec (b : Nat → Bool) : ∀ (k p : Nat), p ≤ nwF b k p ∧ nwF b k p ≤ p + k ∧ sel b (nwF b k p) = sel b p ∧ (nwF b k p < p + k → b (nwF b k p) = true)
  | 0, p => ⟨Nat.le_refl _, Nat.le_refl _, rfl, fun h => absurd h (Nat.lt_irrefl _)⟩
  | k + 1, p => by
    unfold nwF
    by_cases hb : b p = true
    · rw [if_pos hb]; exact ⟨Nat.le_refl _, by omega, rfl, fun _ => hb⟩
    · rw [if_neg hb]
      obtain ⟨h1, h2, h3, h4⟩ := nwF_spec b k (p + 1)
      refine ⟨by omega, by omega, ?_, fun h => h4 (by omega)⟩
      rw [h3, sel_no (by simpa using hb)]
theorem nw_spec (b : Nat → Bool) {n p : Nat} (h : p ≤ n) : p ≤ nw b n p ∧ nw b n p ≤ n ∧ sel b (nw b n p) = sel b p ∧ (nw b n p < n → b (nw b n p) = true) := by
  obtain ⟨h1, h2, h3, h4⟩ := nwF_spec b (n - p) p
  exact ⟨h1, by unfold nw; omega, h3, fun h => h4 (by unfold nw at h; omega)⟩
theorem sel_length (b : Nat → Bool) (n : Nat) : (sel b n).length ≤ n := by
  unfold sel
  have := List.length_filter_le b (List.range n)
  rwa [List.length_range] at this
end Ma
end Go.Proofs.Ytidfanmfibbiiaa
