/-
  What the functions of the reference alluviumref03 come to: Fixed.
-/
import Derived.Test.YteohhcnadoaciaaNumR
import Derived.Test.YteohhcnadoaciaaOwnM
import Derived.Deep.DeepCutAuto
namespace Go.Proofs.Yteohhcnadoaciaa
open Go.RowKit

def rowLen : Value → Nat
  | .slice _ n _ => n
  | _ => 0

end Go.Proofs.Yteohhcnadoaciaa
