/-
  Two rows of labels with one key are the same.
-/
import Derived.Test.YtidfanmfibbiiaaLaP
namespace Go.Proofs.Ytidfanmfibbiiaa
open Go.RowKit
namespace La
theorem key_inj {f g : Nat → Lab} {n m : Nat} (h1 : right f n = true) (h2 : right g m = true) : keyB f n = keyB g m ↔ listOf f n = listOf g m := by
  constructor
  · intro h
    have e1 := of_of_key h1
    have e2 := of_of_key h2
    rw [h, e2] at e1
    exact (Option.some.inj e1).symm
  · intro h
    unfold keyB
    rw [key_list, key_list, h]
end La
end Go.Proofs.Ytidfanmfibbiiaa
