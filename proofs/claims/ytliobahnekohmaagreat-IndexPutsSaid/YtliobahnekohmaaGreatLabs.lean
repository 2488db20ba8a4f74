/-
  A slice of structs of two texts, come in or of the call's own.
-/
import Derived.Test.YtliobahnekohmaaGreatArr
import Derived.Deep.SlicePairs
import Derived.ChangeSame
namespace Go.Proofs.YtliobahnekohmaaGreat
open Go.RowKit
abbrev Lab := ByteArray × ByteArray
theorem addr_block (ad : Addr) (j : Nat) : (ad.add j).block = ad.block := by unfold Addr.add; split <;> rfl
def LabRow (w : World) (A : Option Addr) (n : Nat) (f : Nat → Lab) : Prop :=
 0 < n → ∃ ad, A = some ad ∧ ad.block < w.heap.size ∧ ∀ i, i < n → w.cell? (ad.add (i * 2)) = some (.string (f i).1) ∧ w.cell? (ad.add (i * 2 + 1)) = some (.string (f i).2)
theorem LabRow.at_ {w w2 : World} {A : Option Addr} {n : Nat} {f : Nat → Lab} (h : LabRow w A n f) (hb : Below w.heap.size w w2) {i : Nat} (hi : i < n) :
 ∃ ad, A = some ad ∧ w2.cell? (ad.add (i * 2)) = some (.string (f i).1) ∧ w2.cell? ⟨(ad.add (i * 2)).block, (ad.add (i * 2)).off + 1, none⟩ = some (.string (f i).2) := by
 obtain ⟨ad, e, hlt, hc⟩ := h (by omega)
 obtain ⟨h0, h1⟩ := hc i hi
 refine ⟨ad, e, (hb.cell (by rw [addr_block]; exact hlt)).trans h0, ?_⟩
 have e2 : (ad.add (i * 2)).add 1 = ⟨(ad.add (i * 2)).block, (ad.add (i * 2)).off + 1, none⟩ := rfl
 rw [← e2, Go.Deep.add_add]
 exact (hb.cell (by rw [addr_block]; exact hlt)).trans h1
theorem LabRow.later {w w2 : World} {A : Option Addr} {n : Nat} {f : Nat → Lab} (h : LabRow w A n f) (hb : Below w.heap.size w w2) : LabRow w2 A n f := fun hn => by
 obtain ⟨ad, e, hlt, hc⟩ := h hn
 refine ⟨ad, e, Nat.lt_of_lt_of_le hlt hb.size, fun i hi => ?_⟩
 obtain ⟨h0, h1⟩ := hc i hi
 exact ⟨(hb.cell (by rw [addr_block]; exact hlt)).trans h0, (hb.cell (by rw [addr_block]; exact hlt)).trans h1⟩
theorem text_of_trod {H : Type} {enc : TypeId × Value → H} {P : Program} {w : World} {base n : Nat} {spare : Nat → Bool} {held : Bool} {t : TypeId} {v : Value} {x : DataW H × List MemPlace}
 (ht : P.underlying t = some .string) (h : DataW.trod enc P w base spare held n t [v] = some x) : ∃ z : ByteArray, v = .string z ∧ z.size ≤ maxLen := by
 obtain ⟨z, hz, _, hw⟩ := DataW.trod_string ht h
 exact ⟨z, by simpa using hz, hw⟩
end Go.Proofs.YtliobahnekohmaaGreat
