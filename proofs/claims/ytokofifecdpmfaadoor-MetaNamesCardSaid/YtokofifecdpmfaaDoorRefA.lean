/-
  What the functions of the reference alluviumref01 come to: run.
-/
import Derived.Test.YtokofifecdpmfaaDoorBase
import Derived.Test.YtokofifecdpmfaaDoorMathA
namespace Go.Proofs.YtokofifecdpmfaaDoor
open Go.RowKit

end Go.Proofs.YtokofifecdpmfaaDoor
