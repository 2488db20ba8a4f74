/-
  The walks of the laws, with works' contract put in.
-/
import Derived.Test.YtkknagfeceljdaaNumZ
import Derived.Test.YtkknagfeceljdaaNumW
namespace Go.Proofs.Ytkknagfeceljdaa
open Go.RowKit

theorem numOnly_walk (w : World) (s : ByteArray) (_hs : s.size ≤ maxLen) (k : Int) (hk : (Lit.int .i64 k).wf = true) :
    Calls Try.prog 6 #[.string s, .int .i64 k] w fun e w' => e = .returned (.bool true) ∧ Below w.heap.size w w' :=
  numOnly_walk0 works_any w s _hs k hk
end Go.Proofs.Ytkknagfeceljdaa
