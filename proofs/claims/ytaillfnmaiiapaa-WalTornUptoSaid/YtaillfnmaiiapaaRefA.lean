/-
  What the functions of the reference alluviumref01 come to: run.
-/
import Derived.Test.YtaillfnmaiiapaaBase
import Derived.Test.YtaillfnmaiiapaaMathA
namespace Go.Proofs.Ytaillfnmaiiapaa
open Go.RowKit

end Go.Proofs.Ytaillfnmaiiapaa
