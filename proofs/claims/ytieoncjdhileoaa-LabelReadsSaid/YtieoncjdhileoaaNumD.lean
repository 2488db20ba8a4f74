/-
  What the functions of package num come to: the cursor.
-/
import Derived.Test.YtieoncjdhileoaaNumC
namespace Go.Proofs.Ytieoncjdhileoaa
open Go.RowKit

/-- what a cursor is told, and what it has then -/
def Num.curV {α : Type} (bad ok : Bool) (v z : α) : α := if bad || !ok then z else v
/-- the cursor at block b -/
def CurAt (b : Nat) (s : ByteArray) (bad : Bool) (w : World) : Prop := w.heap[b]? = some (.cells #[.string s, .bool bad] 58 (0, 0))
theorem CurAt.cells {b : Nat} {s : ByteArray} {bad : Bool} {w : World} (h : CurAt b s bad w) : w.cell? ⟨b, 0, none⟩ = some (.string s) ∧ w.cell? ⟨b, 1, none⟩ = some (.bool bad) ∧ w.frozen? ⟨b, 0, none⟩ = false ∧ w.frozen? ⟨b, 1, none⟩ = false :=
  ⟨cell_of_row w b 0 _ _ _ h, cell_of_row w b 1 _ _ _ h, frozen_of_row w b 0 _ _ h, frozen_of_row w b 1 _ _ h⟩
theorem CurAt.putS {b : Nat} {s : ByteArray} {bad : Bool} {w : World} (h : CurAt b s bad w) (t : ByteArray) : CurAt b t bad (w.setCell ⟨b, 0, none⟩ (.string t)) := heap_setCell_same w b 0 _ _ _ h
theorem CurAt.putBad {b : Nat} {s : ByteArray} {bad : Bool} {w : World} (h : CurAt b s bad w) (t : Bool) : CurAt b s t (w.setCell ⟨b, 1, none⟩ (.bool t)) := heap_setCell_same w b 1 _ _ _ h
theorem CurAt.drew {b : Nat} {s : ByteArray} {bad : Bool} {w : World} (h : CurAt b s bad w) : CurAt b s bad w.drew := h

end Go.Proofs.Ytieoncjdhileoaa
