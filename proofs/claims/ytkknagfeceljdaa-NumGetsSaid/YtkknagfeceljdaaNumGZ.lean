/-
  NumGets: the walk, with works' contract put in, over a slice that came in.
-/
import Derived.Test.YtkknagfeceljdaaNumGW
import Derived.Test.YtkknagfeceljdaaNumW
namespace Go.Proofs.Ytkknagfeceljdaa
open Go.RowKit

theorem numGets_walk {H : Type} {enc : TypeId × Value → H} {r : Reach} {b0 : Nat} {v : Value} {d : DataW H} {p : List MemPlace} (w : World) (s : ByteArray) (hs : s.size ≤ maxLen)
    (hv : Value.okWide Try.prog w r b0 30 v) (h : DataW.Trod enc Try.prog w 0 (fun _ => true) true 30 v d p) :
    Calls Try.prog 4 #[.string s, v] w fun e w' => e = .returned (.bool true) ∧ Below w.heap.size w w' := by
  obtain ⟨A, n, c, f, rfl, hn, hA⟩ := open_pairs (k0 := .i64) (k1 := .i64) Try.underlying30 Try.underlying34 Try.underlying3 Try.underlying3 (by kernel_rfl) (by kernel_rfl) (by kernel_rfl) (by kernel_rfl) (by kernel_rfl) hv h
  exact numGets_walk0 works_any w s hs A n c f hn hA
end Go.Proofs.Ytkknagfeceljdaa
