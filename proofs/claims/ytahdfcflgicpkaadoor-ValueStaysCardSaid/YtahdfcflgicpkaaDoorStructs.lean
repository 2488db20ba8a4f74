/-
  Structs of integers that came in, or are laid.
-/
import Derived.Test.YtahdfcflgicpkaaDoorBase
import Derived.Deep.SlicePairs
import Derived.ChangeSame
import Derived.OpenShut
namespace Go.Proofs.YtahdfcflgicpkaaDoor
open Go.RowKit

theorem choose_below {α : Type} [Inhabited α] {n : Nat} {p : Nat → α → Prop} (h : ∀ j, j < n → ∃ a, p j a) : ∃ f : Nat → α, ∀ j, j < n → p j (f j) := by
  have h2 : ∀ j, ∃ a, j < n → p j a := fun j => by
    by_cases hj : j < n
    · obtain ⟨a, ha⟩ := h j hj; exact ⟨a, fun _ => ha⟩
    · exact ⟨default, fun h => absurd h hj⟩
  exact ⟨fun j => Classical.choose (h2 j), fun j hj => Classical.choose_spec (h2 j) hj⟩
/-- the cells of a struct of integers, and the datum that it is -/
theorem struct_ints {H : Type} {enc : TypeId × Value → H} {P : Program} {w : World} {base m : Nat} {spare : Nat → Bool} {held : Bool} {t : TypeId} {fs : Array Field} {cs : List Value} {x : DataW H × List MemPlace} (kinds : List IntKind)
    (ht : P.underlying t = some (.struct fs)) (hs : fs.size = kinds.length) (hf : ∀ j f, fs[j]? = some f → f.offset = j ∧ P.cellsOf f.type = 1 ∧ P.underlying f.type = some (.int (kinds.getD j .i64)))
    (h : DataW.trod enc P w base spare held m t cs = some x) :
    ∃ z : Nat → Int, (∀ j, j < kinds.length → cs[j]? = some (.int (kinds.getD j .i64) (z j)) ∧ (Lit.int (kinds.getD j .i64) (z j)).wf = true) ∧ ∃ ds, x.1 = .agg ds ∧ ds.length = kinds.length ∧ ∀ j, j < kinds.length → ds[j]? = some (.lit (.int (kinds.getD j .i64) (z j))) := by
  obtain ⟨xs, n, _, rfl, hl, hlen, hf2⟩ := DataW.trod_struct ht h
  have each : ∀ j, j < kinds.length → ∃ z : Int, cs[j]? = some (.int (kinds.getD j .i64) z) ∧ (Lit.int (kinds.getD j .i64) z).wf = true ∧ (xs.map (·.1))[j]? = some (.lit (.int (kinds.getD j .i64) z)) := fun j hj => by
    have hfj : fs[j]? = some (fs[j]'(by omega)) := Array.getElem?_eq_getElem (by omega)
    obtain ⟨f1, f2, f3⟩ := hf j _ hfj
    have h2 := hf2 j _ hfj
    rw [f1, f2] at h2
    have hxj : xs[j]? = some (xs[j]'(by omega)) := List.getElem?_eq_getElem (by omega)
    rw [hxj] at h2
    obtain ⟨z, e1, e2, e3⟩ := DataW.trod_int f3 h2
    refine ⟨z, ?_, e3, ?_⟩
    · have hlt : j < cs.length := by
        rcases Nat.lt_or_ge j cs.length with h | h
        · exact h
        · rw [List.drop_of_length_le h] at e1; simp at e1
      rw [List.drop_eq_getElem_cons hlt] at e1
      have e4 : [cs[j]] = [Value.int (kinds.getD j .i64) z] := e1
      rw [List.getElem?_eq_getElem hlt, (List.cons.inj e4).1]
    · rw [List.getElem?_map, hxj]
      simp only [Option.map_some, e2]
  obtain ⟨z, hz⟩ := choose_below each
  exact ⟨z, fun j hj => ⟨(hz j hj).1, (hz j hj).2.1⟩, xs.map (·.1), rfl, by rw [List.length_map, hlen, hs], fun j hj => (hz j hj).2.2⟩
open Go.WideShapes in
/-- a struct of three integers that came in -/
theorem open_struct3 {H : Type} {enc : TypeId × Value → H} {P : Program} {w : World} {r : Reach} {b0 : Nat} {spare : Nat → Bool} {held : Bool} {t : TypeId} {fs : Array Field} {k0 k1 k2 : IntKind} {v : Value} {d : DataW H} {p : List MemPlace}
    (ht : P.underlying t = some (.struct fs)) (hs : fs.size = 3) (hf : ∀ j f, fs[j]? = some f → f.offset = j ∧ P.cellsOf f.type = 1 ∧ P.underlying f.type = some (.int ([k0, k1, k2].getD j .i64)))
    (hC : P.cellsOf t = 3) (hv : Value.okWide P w r b0 t v) (h : DataW.Trod enc P w 0 spare held t v d p) :
    ∃ a b c : Int, v = .agg #[.int k0 a, .int k1 b, .int k2 c] ∧ (Lit.int k0 a).wf = true ∧ (Lit.int k1 b).wf = true ∧ (Lit.int k2 c).wf = true := by
  obtain ⟨cs, rfl, hcs⟩ := okWide_struct ht hv
  obtain ⟨fuel, hfu⟩ := h
  obtain ⟨z, hz, _⟩ := struct_ints [k0, k1, k2] ht hs hf hfu
  have h0 := hz 0 (by simp)
  have h1 := hz 1 (by simp)
  have h2 := hz 2 (by simp)
  refine ⟨z 0, z 1, z 2, ?_, h0.2, h1.2, h2.2⟩
  congr 1
  apply Array.ext_getElem?
  intro j
  have c0 : (Value.agg cs).cells.toList = cs.toList := rfl
  rw [c0] at hz h0 h1 h2
  rcases Nat.lt_or_ge j 3 with hj | hj
  · obtain rfl | rfl | rfl : j = 0 ∨ j = 1 ∨ j = 2 := by omega
    · simpa using h0.1
    · simpa using h1.1
    · simpa using h2.1
  · rw [Array.getElem?_eq_none (by omega), Array.getElem?_eq_none (by simpa using hj)]
end Go.Proofs.YtahdfcflgicpkaaDoor
