/-
  What the functions of the reference alluviumref03 come to: Fixed.
-/
import Derived.Test.YtieoncjdhileoaaNumR
import Derived.Test.YtieoncjdhileoaaOwnM
import Derived.Deep.DeepCutAuto
namespace Go.Proofs.Ytieoncjdhileoaa
open Go.RowKit

def rowLen : Value → Nat
  | .slice _ n _ => n
  | _ => 0

end Go.Proofs.Ytieoncjdhileoaa
