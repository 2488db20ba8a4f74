/-
  The empty text.
-/
import Derived.Test.YtokofifecdpmfaaDoorFrH
namespace Go.Proofs.YtokofifecdpmfaaDoor
open Go.RowKit
theorem empty_is : ByteArray.empty.toList.isEmpty = true := by rw [ByteArray.toList_eq]; rfl
end Go.Proofs.YtokofifecdpmfaaDoor
