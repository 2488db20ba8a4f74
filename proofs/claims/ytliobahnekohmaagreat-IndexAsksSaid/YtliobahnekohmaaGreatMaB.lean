import Derived.Test.YtliobahnekohmaaGreatArr
import Derived.Test.YtliobahnekohmaaGreatLabs
import Derived.Test.YtliobahnekohmaaGreatRangeN
import Derived.RangeFuncBound
import Derived.RangeFuncBox
import Derived.Shelf.Abstract
import Derived.Shelf.RegionOpen
import Derived.OwnWalkIn
import Derived.TacticsInMore
import Derived.LoopNIn
import Derived.LoopIn
/-
  The things that are wanted: the mathematics of package match's ranges.
-/
namespace Go.Proofs.YtliobahnekohmaaGreat
namespace Ma
/-- the places of those that are wanted -/
def sel (b : Nat → Bool) (n : Nat) : List Nat := (List.range n).filter b
def nwF (b : Nat → Bool) : Nat → Nat → Nat
  | 0, p => p
  | k + 1, p => if b p = true then p else nwF b k (p + 1)
/-- the next one, from a place on -/
def nw (b : Nat → Bool) (n p : Nat) : Nat := nwF b (n - p) p
theorem nw_yes {b : Nat → Bool} {n p : Nat} (h : p < n) (hb : b p = true) : nw b n p = p := by
  unfold nw
  rw [show n - p = (n - p - 1) + 1 from by omega, nwF, if_pos hb]
theorem nw_no {b : Nat → Bool} {n p : Nat} (h : p < n) (hb : b p = false) : nw b n p = nw b n (p + 1) := by
  unfold nw
  rw [show n - p = (n - (p + 1)) + 1 from by omega, nwF, if_neg (by rw [hb]; decide)]
theorem nw_end {b : Nat → Bool} {n p : Nat} (h : n ≤ p) : nw b n p = p := by
  unfold nw
  rw [show n - p = 0 from by omega, nwF]
theorem sel_yes {b : Nat → Bool} {p : Nat} (h : b p = true) : sel b (p + 1) = sel b p ++ [p] := by
  unfold sel; rw [List.range_succ, List.filter_append]; simp [h]
theorem sel_no {b : Nat → Bool} {p : Nat} (h : b p = false) : sel b (p + 1) = sel b p := by
  unfold sel; rw [List.range_succ, List.filter_append]; simp [h]
theorem nwF_spec (b : Nat → Bool) : ∀ (k p : Nat), p ≤ nwF b k p ∧ nwF b k p ≤ p + k ∧ sel b (nwF b k p) = sel b p ∧ (nwF b k p < p + k → b (nwF b k p) = true)
  | 0, p => ⟨Nat.le_refl _, Nat.le_refl _, rfl, fun h => absurd h (Nat.lt_irrefl _)⟩
  | k + 1, p => by
    unfold nwF
    by_cases hb : b p = true
    · rw [if_pos hb]; exact ⟨Nat.le_refl _, by omega, rfl, fun _ => hb⟩
    · rw [if_neg hb]
      obtain ⟨h1, h2, h3, h4⟩ := nwF_spec b k (p + 1)
      refine ⟨by omega, by omega, ?_, fun h => h4 (by omega)⟩
      rw [h3, sel_no (by simpa using hb)]
theorem nw_spec (b : Nat → Bool) {n p : Nat} (h : p ≤ n) : p ≤ nw b n p ∧ nw b n p ≤ n ∧ sel b (nw b n p) = sel b p ∧ (nw b n p < n → b (nw b n p) = true) := by
  obtain ⟨h1, h2, h3, h4⟩ := nwF_spec b (n - p) p
  exact ⟨h1, by unfold nw; omega, h3, fun h => h4 (by unfold nw at h; omega)⟩
theorem sel_length (b : Nat → Bool) (n : Nat) : (sel b n).length ≤ n := by
  unfold sel
  have := List.length_filter_le b (List.range n)
  rwa [List.length_range] at this
end Ma
end Go.Proofs.YtliobahnekohmaaGreat
/-
  Rows of any elements, and the two boxes of a function that hands places on.
-/
namespace Go.Proofs.YtliobahnekohmaaGreat
open Go.RowKit
/-- a slice: what its cells hold, so many to an element -/
def Row (k : Nat) (x : Nat → Nat → Value) (w : World) (A : Option Addr) (n : Nat) : Prop :=
  0 < n → ∃ ad, A = some ad ∧ ad.block < w.heap.size ∧ ∀ i, i < n → ∀ j, j < k → w.cell? (ad.add (i * k + j)) = some (x i j)
theorem Row.at_ {k : Nat} {x : Nat → Nat → Value} {w w2 : World} {A : Option Addr} {n : Nat} (h : Row k x w A n) (hb : Below w.heap.size w w2) {i : Nat} (hi : i < n) :
    ∃ ad, A = some ad ∧ (0 < k → w2.cell? (ad.add (i * k)) = some (x i 0)) ∧ ∀ j, j < k → 0 < j → w2.cell? ⟨(ad.add (i * k)).block, (ad.add (i * k)).off + j, none⟩ = some (x i j) := by
  obtain ⟨ad, e, hlt, hc⟩ := h (by omega)
  refine ⟨ad, e, fun hk => (hb.cell (by rw [addr_block]; exact hlt)).trans (hc i hi 0 hk), fun j hj h0 => ?_⟩
  obtain ⟨j, rfl⟩ : ∃ j', j = j' + 1 := ⟨j - 1, by omega⟩
  have e2 : (ad.add (i * k)).add (j + 1) = ⟨(ad.add (i * k)).block, (ad.add (i * k)).off + (j + 1), none⟩ := rfl
  rw [← e2, Go.Deep.add_add]
  exact (hb.cell (by rw [addr_block]; exact hlt)).trans (hc i hi _ hj)
theorem Row.later {k : Nat} {x : Nat → Nat → Value} {w w2 : World} {A : Option Addr} {n : Nat} (h : Row k x w A n) (hb : Below w.heap.size w w2) : Row k x w2 A n := fun hn => by
  obtain ⟨ad, e, hlt, hc⟩ := h hn
  exact ⟨ad, e, Nat.lt_of_lt_of_le hlt hb.size, fun i hi j hj => (hb.cell (by rw [addr_block]; exact hlt)).trans (hc i hi j hj)⟩
theorem LabRow.row {w : World} {A : Option Addr} {n : Nat} {f : Nat → Lab} (h : LabRow w A n f) : Row 2 (fun i j => if j = 0 then .string (f i).1 else .string (f i).2) w A n := fun hn => by
  obtain ⟨ad, e, hlt, hc⟩ := h hn
  refine ⟨ad, e, hlt, fun i hi j hj => ?_⟩
  rcases (show j = 0 ∨ j = 1 by omega) with rfl | rfl
  · exact (hc i hi).1
  · exact (hc i hi).2
/-- the two boxes of the function that places tells -/
structure PIn (w0 : World) (g : Nat) (v f : Value) (tv tf : TypeId) (W : World) : Prop where
  low : w0.heap.size ≤ g
  bel : Below w0.heap.size w0 W
  b1 : W.heap[g]? = some (.cells #[v] tv (0, 0))
  b2 : W.heap[g + 1]? = some (.cells #[f] tf (0, 0))
def PKeep (base g : Nat) (A B : World) : Prop := Below base A B ∧ B.heap[g]? = A.heap[g]? ∧ B.heap[g + 1]? = A.heap[g + 1]?
theorem PKeep.trans {base g : Nat} {A B C : World} (h : PKeep base g A B) (k : PKeep base g B C) : PKeep base g A C := ⟨h.1.trans k.1, k.2.1.trans h.2.1, k.2.2.trans h.2.2⟩
theorem PIn.keep {w0 : World} {g : Nat} {v f : Value} {tv tf : TypeId} {A B : World} (h : PIn w0 g v f tv tf A) (k : PKeep w0.heap.size g A B) : PIn w0 g v f tv tf B := ⟨h.low, h.bel.trans k.1, k.2.1.trans h.b1, k.2.2.trans h.b2⟩
theorem PIn.later {w0 : World} {g : Nat} {v f : Value} {tv tf : TypeId} {A B : World} (h : PIn w0 g v f tv tf A) (hb : Below A.heap.size A B) : PIn w0 g v f tv tf B := ⟨h.low, h.bel.trans (hb.mono h.bel.size), heap_keep h.b1 hb, heap_keep h.b2 hb⟩
theorem PIn.drew {w0 : World} {g : Nat} {v f : Value} {tv tf : TypeId} {A : World} (h : PIn w0 g v f tv tf A) : PIn w0 g v f tv tf A.drew := ⟨h.low, h.bel.drew, h.b1, h.b2⟩
theorem PIn.cells {w0 : World} {g : Nat} {v f : Value} {tv tf : TypeId} {A : World} (h : PIn w0 g v f tv tf A) : A.cell? ⟨g, 0, none⟩ = some v ∧ A.cell? ⟨g + 1, 0, none⟩ = some f := ⟨cell_of_row _ _ _ _ _ _ h.b1, cell_of_row _ _ _ _ _ _ h.b2⟩
end Go.Proofs.YtliobahnekohmaaGreat
