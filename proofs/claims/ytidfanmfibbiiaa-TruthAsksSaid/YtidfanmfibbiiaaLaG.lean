/-
  What the functions of package label come to: Read.
-/
import Derived.Test.YtidfanmfibbiiaaLaF
namespace Go.Proofs.Ytidfanmfibbiiaa
open Go.RowKit
namespace La
theorem size_mk (l : List UInt8) : (⟨l.toArray⟩ : ByteArray).size = l.length := by rw [Lib.size_eq]
theorem right_sizes (L : List Lab) (h : rightL L = true) : L.length ≤ 6 ∧ ∀ i, i < L.length → (at_ L i).1.size ≤ 300 ∧ (at_ L i).2.size ≤ 300 := by
  unfold rightL right at h
  rw [Bool.and_eq_true, decide_eq_true_eq] at h
  refine ⟨h.1.2, fun i hi => ?_⟩
  have := List.all_eq_true.1 h.2 i (List.mem_range.2 hi)
  unfold okAt okName okValue at this
  simp only [Bool.and_eq_true] at this
  obtain ⟨⟨⟨h1, _⟩, h2⟩, _⟩ := this
  have := allB_pos h1; have := allB_pos h2
  omega
end La
theorem info_u8' : (Try.prog.info? 5).map (fun i => (i.zero, i.size, i.bytes)) = some (some (.int .u8 0), 1, 1) := by kernel_rfl

end Go.Proofs.Ytidfanmfibbiiaa
