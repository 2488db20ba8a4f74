/-
  A slice of integers that came in.
-/
import Derived.Test.YtahdfcflgicpkaaDoorBase
import Derived.Deep.SlicePairs
import Derived.ChangeSame
namespace Go.Proofs.YtahdfcflgicpkaaDoor
open Go.RowKit

/-- a slice of integers that came in: what its cells hold -/
def IntRow (w : World) (A : Option Addr) (n : Nat) (k : IntKind) (f : Nat → Int) : Prop :=
  0 < n → ∃ ad, A = some ad ∧ ad.block < w.heap.size ∧ ∀ i, i < n → w.cell? (ad.add i) = some (.int k (f i)) ∧ (Lit.int k (f i)).wf = true
theorem IntRow.at_ {w w2 : World} {A : Option Addr} {n : Nat} {k : IntKind} {f : Nat → Int} (h : IntRow w A n k f) (hb : Below w.heap.size w w2) {i : Nat} (hi : i < n) :
    ∃ ad, A = some ad ∧ w2.cell? (ad.add i) = some (.int k (f i)) ∧ (Lit.int k (f i)).wf = true := by
  obtain ⟨ad, e, hlt, hc⟩ := h (by omega)
  obtain ⟨h0, h2⟩ := hc i hi
  have hbl : ∀ j, (ad.add j).block = ad.block := fun j => by unfold Addr.add; split <;> rfl
  exact ⟨ad, e, (hb.cell (by rw [hbl]; exact hlt)).trans h0, h2⟩
theorem IntRow.more {w w2 : World} {ad : Addr} {n : Nat} {k : IntKind} {f : Nat → Int} (h : IntRow w (some ad) n k f) (hb : Below w.heap.size w w2) {i : Nat} (hi : i < n) : w2.cell? (ad.add i) = some (.int k (f i)) := by
  obtain ⟨ad', e, h0, _⟩ := h.at_ hb hi
  cases e
  exact h0

open Go.ChangeShapes Go.WideShapes Go.Deep in
theorem open_ints_row {H : Type} {enc : TypeId × Value → H} {P : Program} {w : World} {r : Reach} {b0 : Nat} {spare : Nat → Bool} {held : Bool} {t e : TypeId} {k : IntKind} {v : Value} {d : DataW H} {p : List MemPlace}
    (ht : P.underlying t = some (.slice e)) (he : P.underlying e = some (.int k)) (hC : P.cellsOf e = 1)
    (hv : Value.okWide P w r b0 t v) (h : DataW.Trod enc P w 0 spare held t v d p) :
    ∃ (A : Option Addr) (n c : Nat) (f : Nat → Int), v = .slice A n c ∧ n ≤ maxLen ∧ IntRow w A n k f := by
  obtain ⟨A, n, c, rfl⟩ := okWide_slice ht hv
  obtain ⟨fuel, hf⟩ := h
  rcases open_ints ht he hC hf with ⟨hcs, _⟩ | ⟨a, len, cap, zs, hcs, _, hl, hm, hz, _, hcell, hwz⟩
  · simp [Value.cells] at hcs
    obtain ⟨rfl, rfl, rfl⟩ := hcs
    exact ⟨none, 0, 0, fun _ => 0, rfl, by simp, fun h => absurd h (by omega)⟩
  · simp [Value.cells] at hcs
    obtain ⟨rfl, rfl, rfl⟩ := hcs
    have hlm : n ≤ zs.length := by rw [hz]; split <;> omega
    refine ⟨some a, n, c, fun i => zs.getD i 0, rfl, by omega, fun hn => ⟨a, rfl, ?_, fun i hin => ⟨hcell i (by omega), ?_⟩⟩⟩
    · have := block_lt_of_cell (hcell 0 (by omega))
      have hbl : (a.add 0).block = a.block := by unfold Addr.add; split <;> rfl
      rwa [hbl] at this
    · exact hwz _ (by simp [List.getD, List.getElem?_eq_getElem (show i < zs.length by omega)])
end Go.Proofs.YtahdfcflgicpkaaDoor
