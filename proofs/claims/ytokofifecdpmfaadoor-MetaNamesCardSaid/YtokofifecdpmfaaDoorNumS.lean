/-
  What the functions of the reference alluviumref03 come to: Fixed.
-/
import Derived.Test.YtokofifecdpmfaaDoorNumR
import Derived.Test.YtokofifecdpmfaaDoorOwnM
import Derived.Deep.DeepCutAuto
namespace Go.Proofs.YtokofifecdpmfaaDoor
open Go.RowKit

def rowLen : Value → Nat
  | .slice _ n _ => n
  | _ => 0

end Go.Proofs.YtokofifecdpmfaaDoor
