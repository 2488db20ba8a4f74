/-
  What the functions of package match come to: places and pick, over api.Sample.
-/
import Derived.Test.YtliobahnekohmaaGreatMaC
namespace Go.Proofs.YtliobahnekohmaaGreat
open Go.RowKit Go.Shelf
attribute [local go_sem] Oper.semAt_some

end Go.Proofs.YtliobahnekohmaaGreat
