/-
  What works of the laws of label comes to.
-/
import Derived.Test.YtidfanmfibbiiaaLaK
namespace Go.Proofs.Ytidfanmfibbiiaa
open Go.RowKit

end Go.Proofs.Ytidfanmfibbiiaa
