/-
  The empty text.
-/
import Derived.Test.YtokofifecdpmfaaGreatDoorFrH
namespace Go.Proofs.YtokofifecdpmfaaGreatDoor
open Go.RowKit
theorem empty_is : ByteArray.empty.toList.isEmpty = true := by rw [ByteArray.toList_eq]; rfl
end Go.Proofs.YtokofifecdpmfaaGreatDoor
