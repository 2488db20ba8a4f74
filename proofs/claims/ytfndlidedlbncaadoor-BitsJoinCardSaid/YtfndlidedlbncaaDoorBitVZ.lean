/-
  The walks of the laws, over slices of puts that came in.
-/
import Derived.Test.YtfndlidedlbncaaDoorBitV
namespace Go.Proofs.YtfndlidedlbncaaDoor
open Go.RowKit

theorem open_puts {H : Type} {enc : TypeId × Value → H} {r : Reach} {b0 : Nat} {v : Value} {d : DataW H} {p : List MemPlace} {w : World}
    (hv : Value.okWide Tryd.prog w r b0 22 v) (h : DataW.Trod enc Tryd.prog w 0 (fun _ => true) true 22 v d p) :
    ∃ (A : Option Addr) (n c : Nat) (f : Nat → Int × Int), v = .slice A n c ∧ n ≤ maxLen ∧ PairRow w A n .u64 .i64 f :=
  open_pairs (k0 := .u64) (k1 := .i64) Tryd.underlying22 Tryd.underlying29 Tryd.underlying27 Tryd.underlying3 (by kernel_rfl) (by kernel_rfl) (by kernel_rfl) (by kernel_rfl) (by kernel_rfl) hv h
theorem bitsPuts_walk {H : Type} {enc : TypeId × Value → H} {r : Reach} {b0 : Nat} {v : Value} {d : DataW H} {p : List MemPlace} (w : World) (hT : TabOk w)
    (hv : Value.okWide Tryd.prog w r b0 22 v) (h : DataW.Trod enc Tryd.prog w 0 (fun _ => true) true 22 v d p) :
    Calls Tryd.prog 3 #[v] w fun e w' => e = .returned (.bool true) ∧ Below w.heap.size w w' := by
  obtain ⟨A, n, c, f, rfl, hn, hA⟩ := open_puts hv h
  exact bitsPuts_walk0 w hT A n c f hn hA
end Go.Proofs.YtfndlidedlbncaaDoor
