/-
  The walks of the laws, with works' contract put in.
-/
import Derived.Test.YtkknagfeceljdaaNumQ
import Derived.Test.YtkknagfeceljdaaNumW
namespace Go.Proofs.Ytkknagfeceljdaa
open Go.RowKit

theorem numBack_walk (w : World) (n : Int) (hn : (Lit.int .u64 n).wf = true) (i : Int) (hi : (Lit.int .i64 i).wf = true) (t : ByteArray) (ht : t.size ≤ maxLen) (k : Int) (_hk : (Lit.int .i64 k).wf = true) (r : ByteArray) (hr : r.size ≤ maxLen) :
    Calls Try.prog 5 #[.int .u64 n, .int .i64 i, .string t, .int .i64 k, .string r] w fun e w' => e = .returned (.bool true) ∧ Below w.heap.size w w' :=
  numBack_walk0 works_any w n hn i hi t ht k _hk r hr
end Go.Proofs.Ytkknagfeceljdaa
