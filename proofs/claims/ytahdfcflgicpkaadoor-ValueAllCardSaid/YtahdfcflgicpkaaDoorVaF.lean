/-
  What is laid: the table that Trail reads.
-/
import Derived.Test.YtahdfcflgicpkaaDoorVaA
import Derived.ProofKit
import Derived.LaidMore
import Derived.OpenShut
import Derived.Stop.Joined
namespace Go.Proofs.YtahdfcflgicpkaaDoor
open Go.ChangeShapes Go.WideShapes Go.ChangeAt Go.WideMaps Go.WideElems Go.RowKit

theorem gTab : Tryd.prog.globalNamed "math/bits.deBruijn64tab" = some 0 := by kernel_rfl
theorem tTab : (Tryd.prog.globals[0]?).map (·.type) = some 81 := by kernel_rfl
def laidT : List (String × DataW Unit) := [("math/bits.deBruijn64tab", Rows.laid_math_bits_deBruijn64tab)]
theorem tab_lits : (Rows.laid_math_bits_deBruijn64tab : DataW Unit) = .agg (Lib.deBruijn64tab.map fun (k : Nat) => .lit (.int .u8 (k : Int))) := by kernel_rfl
theorem tab_length : Lib.deBruijn64tab.length = 64 := by decide
theorem of_laid {W : World} (h : laidMetH Tryd.prog laidT W) : TabOk W := by
  rw [MakeChecks.laidMetH_plain _ _ _ (by kernel_rfl)] at h
  obtain ⟨ps, ⟨g0, t0, cs0, f0, p0, q0, hg0, ht0, hv0, hd0, _, _⟩, _, _⟩ := h
  obtain rfl := Option.some.inj (gTab.symm.trans hg0)
  obtain rfl := Option.some.inj (tTab.symm.trans ht0)
  rw [tab_lits] at hd0
  obtain ⟨xs, m1, rfl, hx1, hlen, hn3, hel⟩ := DataW.trod_array Tryd.underlying81 hd0
  have c5 : Tryd.prog.cellsOf 5 = 1 := by kernel_rfl
  simp only [Prod.mk.injEq, DataW.agg.injEq] at hx1
  intro j hj
  rw [tab_length] at hj
  have h0 := hel j hj
  rw [c5, Nat.mul_one] at h0
  have hxj : xs[j]? = some (xs[j]'(by omega)) := List.getElem?_eq_getElem (by omega)
  rw [hxj] at h0
  obtain ⟨k, e1, e2, _⟩ := DataW.trod_int Tryd.underlying5 h0
  have hm : (Lib.deBruijn64tab.map fun (k : Nat) => (DataW.lit (.int .u8 (k : Int)) : DataW Unit))[j]? = (xs.map (·.1))[j]? := by rw [hx1.1]
  rw [List.getElem?_map, List.getElem?_map, hxj, List.getElem?_eq_getElem (by rw [tab_length]; exact hj)] at hm
  simp only [Option.map_some, Option.some.injEq, e2] at hm
  have hk : k = ((Lib.deBruijn64tab.getD j 0 : Nat) : Int) := by
    simp only [DataW.lit.injEq, Lit.int.injEq, true_and] at hm
    rw [← hm]
    simp [List.getD, tab_length, hj]
  have hc := World.var?_cell hg0 hv0 j
  rw [hc]
  have hlc : j < cs0.toList.length := by
    rcases Nat.lt_or_ge j cs0.toList.length with h | h
    · exact h
    · rw [List.drop_of_length_le h] at e1; simp at e1
  rw [List.drop_eq_getElem_cons hlc] at e1
  simp at e1
  rw [Array.getElem?_eq_getElem (by simpa using hlc)]
  rw [e1, hk]
end Go.Proofs.YtahdfcflgicpkaaDoor
