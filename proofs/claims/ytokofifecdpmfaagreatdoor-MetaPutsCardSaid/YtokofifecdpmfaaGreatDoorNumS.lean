/-
  What the functions of the reference alluviumref03 come to: Fixed.
-/
import Derived.Test.YtokofifecdpmfaaGreatDoorNumR
import Derived.Test.YtokofifecdpmfaaGreatDoorOwnM
import Derived.Deep.DeepCutAuto
namespace Go.Proofs.YtokofifecdpmfaaGreatDoor
open Go.RowKit

def rowLen : Value → Nat
  | .slice _ n _ => n
  | _ => 0

end Go.Proofs.YtokofifecdpmfaaGreatDoor
