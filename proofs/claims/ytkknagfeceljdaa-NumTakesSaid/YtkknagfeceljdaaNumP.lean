/-
  The walks of the laws, with works' contract put in.
-/
import Derived.Test.YtkknagfeceljdaaNumT
import Derived.Test.YtkknagfeceljdaaNumW
namespace Go.Proofs.Ytkknagfeceljdaa
open Go.RowKit

theorem numPuts_walk (w : World) (n : Int) (hn : (Lit.int .u64 n).wf = true) (i : Int) (hi : (Lit.int .i64 i).wf = true) (t : ByteArray) (ht : t.size ≤ maxLen) (k : Int) (_hk : (Lit.int .i64 k).wf = true) :
    Calls Try.prog 3 #[.int .u64 n, .int .i64 i, .string t, .int .i64 k] w fun e w' => e = .returned (.bool true) ∧ Below w.heap.size w w' :=
  numPuts_walk0 works_any w n hn i hi t ht k _hk
theorem numZig_walk (w : World) (a : Int) (ha : (Lit.int .i64 a).wf = true) :
    Calls Try.prog 7 #[.int .i64 a] w fun e w' => e = .returned (.bool true) ∧ Below w.heap.size w w' :=
  numZig_walk0 works_any w a ha
theorem numSizes_walk (w : World) (a : Int) (ha : (Lit.int .u64 a).wf = true) (b : Int) (hb : (Lit.int .u64 b).wf = true) (t : ByteArray) (ht : t.size ≤ maxLen) (k : Int) (_hk : (Lit.int .i64 k).wf = true) :
    Calls Try.prog 8 #[.int .u64 a, .int .u64 b, .string t, .int .i64 k] w fun e w' => e = .returned (.bool true) ∧ Below w.heap.size w w' :=
  numSizes_walk0 works_any w a ha b hb t ht k _hk
theorem numTakes_walk (w : World) (s : ByteArray) (hs : s.size ≤ maxLen) (a : Int) (_ha : (Lit.int .i64 a).wf = true) (b : Int) (_hb : (Lit.int .i64 b).wf = true) :
    Calls Try.prog 9 #[.string s, .int .i64 a, .int .i64 b] w fun e w' => e = .returned (.bool true) ∧ Below w.heap.size w w' :=
  numTakes_walk0 works_any w s hs a _ha b _hb
end Go.Proofs.Ytkknagfeceljdaa
