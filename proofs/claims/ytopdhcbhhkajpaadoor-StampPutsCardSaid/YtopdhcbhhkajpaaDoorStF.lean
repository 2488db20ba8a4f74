/-
  What is laid: the table of classes.
-/
import Derived.Test.YtopdhcbhhkajpaaDoorStA
import Derived.Test.YtopdhcbhhkajpaaDoorStructs
import Derived.ProofKit
import Derived.LaidMore
import Derived.OpenShut
import Derived.Stop.Joined
namespace Go.Proofs.YtopdhcbhhkajpaaDoor
open Go.ChangeShapes Go.WideShapes Go.ChangeAt Go.WideMaps Go.WideElems Go.RowKit

theorem gTab : Tryd.prog.globalNamed "alluvium/stamp.classes" = some 0 := by kernel_rfl
theorem tTab : (Tryd.prog.globals[0]?).map (·.type) = some 64 := by kernel_rfl
def laidT : List (String × DataW Unit) := [("alluvium/stamp.classes", Rows.laid_alluvium_stamp_classes)]
def clsKinds : List IntKind := [.i64, .i64, .i64, .u64, .i64, .i64]
def clsRow (k : Nat) : DataW Unit := .agg [.lit (.int .i64 (St.low k)), .lit (.int .i64 (St.high k)), .lit (.int .i64 (St.plus k)), .lit (.int .u64 (St.mark k)), .lit (.int .i64 (St.marks k)), .lit (.int .i64 (St.size k))]
theorem tab_lits : (Rows.laid_alluvium_stamp_classes : DataW Unit) = .agg [clsRow 0, clsRow 1, clsRow 2, clsRow 3, clsRow 4] := by kernel_rfl
theorem of_laid {W : World} (h : laidMetH Tryd.prog laidT W) : ClsOk W := by
  rw [MakeChecks.laidMetH_plain _ _ _ (by kernel_rfl)] at h
  obtain ⟨ps, ⟨g0, t0, cs0, f0, p0, q0, hg0, ht0, hv0, hd0, _, _⟩, _, _⟩ := h
  obtain rfl := Option.some.inj (gTab.symm.trans hg0)
  obtain rfl := Option.some.inj (tTab.symm.trans ht0)
  rw [tab_lits] at hd0
  obtain ⟨xs, m1, rfl, hx1, hlen, hn3, hel⟩ := DataW.trod_array Tryd.underlying64 hd0
  have c5 : Tryd.prog.cellsOf 63 = 6 := by kernel_rfl
  simp only [Prod.mk.injEq, DataW.agg.injEq] at hx1
  intro k hk j hj
  have h0 := hel k hk
  rw [c5] at h0
  have hxj : xs[k]? = some (xs[k]'(by omega)) := List.getElem?_eq_getElem (by omega)
  rw [hxj] at h0
  obtain ⟨z, hz, ds, hd1, hd2, hd3⟩ := struct_ints clsKinds Tryd.underlying63 rfl (fun j f hf => by
    have hj : j < 6 := by
      have := (Array.getElem?_eq_some_iff.1 hf).1
      simpa using this
    obtain rfl | rfl | rfl | rfl | rfl | rfl : j = 0 ∨ j = 1 ∨ j = 2 ∨ j = 3 ∨ j = 4 ∨ j = 5 := by omega
    all_goals
      simp at hf
      subst hf
      exact ⟨rfl, by kernel_rfl, by kernel_rfl⟩) h0
  have hm : [clsRow 0, clsRow 1, clsRow 2, clsRow 3, clsRow 4][k]? = (xs.map (·.1))[k]? := by rw [hx1.1]
  rw [List.getElem?_map, hxj] at hm
  simp only [Option.map_some, hd1] at hm
  have hrow : [clsRow 0, clsRow 1, clsRow 2, clsRow 3, clsRow 4][k]? = some (clsRow k) := by
    obtain rfl | rfl | rfl | rfl | rfl : k = 0 ∨ k = 1 ∨ k = 2 ∨ k = 3 ∨ k = 4 := by omega
    all_goals rfl
  rw [hrow] at hm
  have hds : ds = [.lit (.int .i64 (St.low k)), .lit (.int .i64 (St.high k)), .lit (.int .i64 (St.plus k)), .lit (.int .u64 (St.mark k)), .lit (.int .i64 (St.marks k)), .lit (.int .i64 (St.size k))] := by
    have := Option.some.inj hm
    unfold clsRow at this
    simp only [DataW.agg.injEq] at this
    exact this.symm
  have hz1 := (hz j hj).1
  have hz3 := hd3 j hj
  rw [hds] at hz3
  have hc := World.var?_cell hg0 hv0 (k * 6 + j)
  rw [hc]
  have hcell : cs0[k * 6 + j]? = some (.int (clsKinds.getD j .i64) (z j)) := by
    rw [← hz1, ← Array.getElem?_toList, List.getElem?_take_of_lt (show j < 6 from hj), List.getElem?_drop]
  rw [hcell]
  obtain rfl | rfl | rfl | rfl | rfl | rfl : j = 0 ∨ j = 1 ∨ j = 2 ∨ j = 3 ∨ j = 4 ∨ j = 5 := by
    have : j < 6 := hj
    omega
  all_goals
    simp [clsKinds] at hz3
    simp [clsKinds, St.cell, hz3]
end Go.Proofs.YtopdhcbhhkajpaaDoor
