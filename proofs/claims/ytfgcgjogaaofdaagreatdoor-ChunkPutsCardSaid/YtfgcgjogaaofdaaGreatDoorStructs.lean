import Derived.Test.YtfgcgjogaaofdaaGreatDoorBase
import Derived.Deep.SlicePairs
import Derived.ChangeSame
import Derived.OpenShut
/-
  A slice of structs of two integers that came in.
-/
namespace Go.Proofs.YtfgcgjogaaofdaaGreatDoor
open Go.RowKit

/-- a slice of structs of two integers that came in: what its cells hold -/
def PairRow (w : World) (A : Option Addr) (n : Nat) (k0 k1 : IntKind) (f : Nat → Int × Int) : Prop :=
  0 < n → ∃ ad, A = some ad ∧ ad.block < w.heap.size ∧ ∀ i, i < n → w.cell? (ad.add (i * 2)) = some (.int k0 (f i).1) ∧ w.cell? (ad.add (i * 2 + 1)) = some (.int k1 (f i).2) ∧ (Lit.int k0 (f i).1).wf = true ∧ (Lit.int k1 (f i).2).wf = true
theorem PairRow.at_ {w w2 : World} {A : Option Addr} {n : Nat} {k0 k1 : IntKind} {f : Nat → Int × Int} (h : PairRow w A n k0 k1 f) (hb : Below w.heap.size w w2) {i : Nat} (hi : i < n) :
    ∃ ad, A = some ad ∧ w2.cell? (ad.add (i * 2)) = some (.int k0 (f i).1) ∧ w2.cell? (ad.add (i * 2 + 1)) = some (.int k1 (f i).2) ∧ (Lit.int k0 (f i).1).wf = true ∧ (Lit.int k1 (f i).2).wf = true := by
  obtain ⟨ad, e, hlt, hc⟩ := h (by omega)
  obtain ⟨h0, h1, h2, h3⟩ := hc i hi
  have hbl : ∀ j, (ad.add j).block = ad.block := fun j => by unfold Addr.add; split <;> rfl
  exact ⟨ad, e, (hb.cell (by rw [hbl]; exact hlt)).trans h0, (hb.cell (by rw [hbl]; exact hlt)).trans h1, h2, h3⟩

theorem wf_of_trod_int {H : Type} {enc : TypeId × Value → H} {P : Program} {w : World} {base n : Nat} {spare : Nat → Bool} {held : Bool} {t : TypeId} {k : IntKind} {v : Value} {x : DataW H × List MemPlace}
    (ht : P.underlying t = some (.int k)) (h : DataW.trod enc P w base spare held n t [v] = some x) : ∃ z, v = .int k z ∧ (Lit.int k z).wf = true := by
  obtain ⟨z, hz, _, hw⟩ := DataW.trod_int ht h
  exact ⟨z, by simpa using hz, hw⟩
theorem PairRow.more {w w2 : World} {ad : Addr} {n : Nat} {k0 k1 : IntKind} {f : Nat → Int × Int} (h : PairRow w (some ad) n k0 k1 f) (hb : Below w.heap.size w w2) {i : Nat} (hi : i < n) :
    w2.cell? (ad.add (i * 2)) = some (.int k0 (f i).1) ∧ w2.cell? ⟨(ad.add (i * 2)).block, (ad.add (i * 2)).off + 1, none⟩ = some (.int k1 (f i).2) := by
  obtain ⟨ad', e, h0, h1, _⟩ := h.at_ hb hi
  cases e
  refine ⟨h0, ?_⟩
  have e2 : (ad.add (i * 2)).add 1 = ⟨(ad.add (i * 2)).block, (ad.add (i * 2)).off + 1, none⟩ := rfl
  rw [← e2, Go.Deep.add_add]; exact h1

open Go.ChangeShapes Go.WideShapes Go.Deep in
theorem open_pairs {H : Type} {enc : TypeId × Value → H} {P : Program} {w : World} {r : Reach} {b0 : Nat} {spare : Nat → Bool} {held : Bool} {t e : TypeId} {k0 k1 : IntKind} {f0 f1 : Field} {v : Value} {d : DataW H} {p : List MemPlace}
    (ht : P.underlying t = some (.slice e)) (he : P.underlying e = some (.struct #[f0, f1])) (h0 : P.underlying f0.type = some (.int k0)) (h1 : P.underlying f1.type = some (.int k1)) (c0 : P.cellsOf f0.type = 1) (c1 : P.cellsOf f1.type = 1) (o0 : f0.offset = 0) (o1 : f1.offset = 1) (hC : P.cellsOf e = 2)
    (hv : Value.okWide P w r b0 t v) (h : DataW.Trod enc P w 0 spare held t v d p) :
    ∃ (A : Option Addr) (n c : Nat) (f : Nat → Int × Int), v = .slice A n c ∧ n ≤ maxLen ∧ PairRow w A n k0 k1 f := by
  obtain ⟨A, n, c, rfl⟩ := okWide_slice ht hv
  obtain ⟨fuel, hf⟩ := h
  rcases open_slice_pairs ht he hC o0 o1 c0 c1 hf with ⟨hcs, _⟩ | ⟨a, len, cap, m, n', V0, V1, D0, D1, P0, P1, hcs, _, hl, hm, hmm, _, hi⟩
  · simp [Value.cells] at hcs
    obtain ⟨rfl, rfl, rfl⟩ := hcs
    exact ⟨none, 0, 0, fun _ => (0, 0), rfl, by simp, fun h => absurd h (by omega)⟩
  · simp [Value.cells] at hcs
    obtain ⟨rfl, rfl, rfl⟩ := hcs
    have hlm : n ≤ m := by rw [hmm]; split <;> omega
    have each : ∀ i, i < m → ∃ q : Int × Int, V0 i = .int k0 q.1 ∧ V1 i = .int k1 q.2 ∧ (Lit.int k0 q.1).wf = true ∧ (Lit.int k1 q.2).wf = true := fun i him => by
      obtain ⟨_, _, g0, g1⟩ := hi i him
      obtain ⟨z0, e0, w0⟩ := wf_of_trod_int h0 g0
      obtain ⟨z1, e1, w1⟩ := wf_of_trod_int h1 g1
      exact ⟨(z0, z1), e0, e1, w0, w1⟩
    obtain ⟨q, hq⟩ := choose_lt each
    refine ⟨some a, n, c, q, rfl, by omega, fun hn => ⟨a, rfl, ?_, fun i hin => ?_⟩⟩
    · have := block_lt_of_cell (hi 0 (by omega)).1
      have hbl : (a.add (0 * 2)).block = a.block := by unfold Addr.add; split <;> rfl
      rwa [hbl] at this
    · obtain ⟨g0, g1, _, _⟩ := hi i (by omega)
      obtain ⟨q0, q1, q2, q3⟩ := hq i (by omega)
      rw [q0] at g0; rw [q1] at g1
      exact ⟨g0, g1, q2, q3⟩
end Go.Proofs.YtfgcgjogaaofdaaGreatDoor
/-
  A slice of integers that came in.
-/
namespace Go.Proofs.YtfgcgjogaaofdaaGreatDoor
open Go.RowKit

/-- a slice of integers that came in: what its cells hold -/
def IntRow (w : World) (A : Option Addr) (n : Nat) (k : IntKind) (f : Nat → Int) : Prop :=
  0 < n → ∃ ad, A = some ad ∧ ad.block < w.heap.size ∧ ∀ i, i < n → w.cell? (ad.add i) = some (.int k (f i)) ∧ (Lit.int k (f i)).wf = true
theorem IntRow.at_ {w w2 : World} {A : Option Addr} {n : Nat} {k : IntKind} {f : Nat → Int} (h : IntRow w A n k f) (hb : Below w.heap.size w w2) {i : Nat} (hi : i < n) :
    ∃ ad, A = some ad ∧ w2.cell? (ad.add i) = some (.int k (f i)) ∧ (Lit.int k (f i)).wf = true := by
  obtain ⟨ad, e, hlt, hc⟩ := h (by omega)
  obtain ⟨h0, h2⟩ := hc i hi
  have hbl : ∀ j, (ad.add j).block = ad.block := fun j => by unfold Addr.add; split <;> rfl
  exact ⟨ad, e, (hb.cell (by rw [hbl]; exact hlt)).trans h0, h2⟩
theorem IntRow.more {w w2 : World} {ad : Addr} {n : Nat} {k : IntKind} {f : Nat → Int} (h : IntRow w (some ad) n k f) (hb : Below w.heap.size w w2) {i : Nat} (hi : i < n) : w2.cell? (ad.add i) = some (.int k (f i)) := by
  obtain ⟨ad', e, h0, _⟩ := h.at_ hb hi
  cases e
  exact h0

open Go.ChangeShapes Go.WideShapes Go.Deep in
theorem open_ints_row {H : Type} {enc : TypeId × Value → H} {P : Program} {w : World} {r : Reach} {b0 : Nat} {spare : Nat → Bool} {held : Bool} {t e : TypeId} {k : IntKind} {v : Value} {d : DataW H} {p : List MemPlace}
    (ht : P.underlying t = some (.slice e)) (he : P.underlying e = some (.int k)) (hC : P.cellsOf e = 1)
    (hv : Value.okWide P w r b0 t v) (h : DataW.Trod enc P w 0 spare held t v d p) :
    ∃ (A : Option Addr) (n c : Nat) (f : Nat → Int), v = .slice A n c ∧ n ≤ maxLen ∧ IntRow w A n k f := by
  obtain ⟨A, n, c, rfl⟩ := okWide_slice ht hv
  obtain ⟨fuel, hf⟩ := h
  rcases open_ints ht he hC hf with ⟨hcs, _⟩ | ⟨a, len, cap, zs, hcs, _, hl, hm, hz, _, hcell, hwz⟩
  · simp [Value.cells] at hcs
    obtain ⟨rfl, rfl, rfl⟩ := hcs
    exact ⟨none, 0, 0, fun _ => 0, rfl, by simp, fun h => absurd h (by omega)⟩
  · simp [Value.cells] at hcs
    obtain ⟨rfl, rfl, rfl⟩ := hcs
    have hlm : n ≤ zs.length := by rw [hz]; split <;> omega
    refine ⟨some a, n, c, fun i => zs.getD i 0, rfl, by omega, fun hn => ⟨a, rfl, ?_, fun i hin => ⟨hcell i (by omega), ?_⟩⟩⟩
    · have := block_lt_of_cell (hcell 0 (by omega))
      have hbl : (a.add 0).block = a.block := by unfold Addr.add; split <;> rfl
      rwa [hbl] at this
    · exact hwz _ (by simp [List.getD, List.getElem?_eq_getElem (show i < zs.length by omega)])
end Go.Proofs.YtfgcgjogaaofdaaGreatDoor
/-
  Structs of integers that came in, or are laid.
-/
namespace Go.Proofs.YtfgcgjogaaofdaaGreatDoor
open Go.RowKit

theorem choose_below {α : Type} [Inhabited α] {n : Nat} {p : Nat → α → Prop} (h : ∀ j, j < n → ∃ a, p j a) : ∃ f : Nat → α, ∀ j, j < n → p j (f j) := by
  have h2 : ∀ j, ∃ a, j < n → p j a := fun j => by
    by_cases hj : j < n
    · obtain ⟨a, ha⟩ := h j hj; exact ⟨a, fun _ => ha⟩
    · exact ⟨default, fun h => absurd h hj⟩
  exact ⟨fun j => Classical.choose (h2 j), fun j hj => Classical.choose_spec (h2 j) hj⟩
/-- the cells of a struct of integers, and the datum that it is -/
theorem struct_ints {H : Type} {enc : TypeId × Value → H} {P : Program} {w : World} {base m : Nat} {spare : Nat → Bool} {held : Bool} {t : TypeId} {fs : Array Field} {cs : List Value} {x : DataW H × List MemPlace} (kinds : List IntKind)
    (ht : P.underlying t = some (.struct fs)) (hs : fs.size = kinds.length) (hf : ∀ j f, fs[j]? = some f → f.offset = j ∧ P.cellsOf f.type = 1 ∧ P.underlying f.type = some (.int (kinds.getD j .i64)))
    (h : DataW.trod enc P w base spare held m t cs = some x) :
    ∃ z : Nat → Int, (∀ j, j < kinds.length → cs[j]? = some (.int (kinds.getD j .i64) (z j)) ∧ (Lit.int (kinds.getD j .i64) (z j)).wf = true) ∧ ∃ ds, x.1 = .agg ds ∧ ds.length = kinds.length ∧ ∀ j, j < kinds.length → ds[j]? = some (.lit (.int (kinds.getD j .i64) (z j))) := by
  obtain ⟨xs, n, _, rfl, hl, hlen, hf2⟩ := DataW.trod_struct ht h
  have each : ∀ j, j < kinds.length → ∃ z : Int, cs[j]? = some (.int (kinds.getD j .i64) z) ∧ (Lit.int (kinds.getD j .i64) z).wf = true ∧ (xs.map (·.1))[j]? = some (.lit (.int (kinds.getD j .i64) z)) := fun j hj => by
    have hfj : fs[j]? = some (fs[j]'(by omega)) := Array.getElem?_eq_getElem (by omega)
    obtain ⟨f1, f2, f3⟩ := hf j _ hfj
    have h2 := hf2 j _ hfj
    rw [f1, f2] at h2
    have hxj : xs[j]? = some (xs[j]'(by omega)) := List.getElem?_eq_getElem (by omega)
    rw [hxj] at h2
    obtain ⟨z, e1, e2, e3⟩ := DataW.trod_int f3 h2
    refine ⟨z, ?_, e3, ?_⟩
    · have hlt : j < cs.length := by
        rcases Nat.lt_or_ge j cs.length with h | h
        · exact h
        · rw [List.drop_of_length_le h] at e1; simp at e1
      rw [List.drop_eq_getElem_cons hlt] at e1
      have e4 : [cs[j]] = [Value.int (kinds.getD j .i64) z] := e1
      rw [List.getElem?_eq_getElem hlt, (List.cons.inj e4).1]
    · rw [List.getElem?_map, hxj]
      simp only [Option.map_some, e2]
  obtain ⟨z, hz⟩ := choose_below each
  exact ⟨z, fun j hj => ⟨(hz j hj).1, (hz j hj).2.1⟩, xs.map (·.1), rfl, by rw [List.length_map, hlen, hs], fun j hj => (hz j hj).2.2⟩
open Go.WideShapes in
/-- a struct of three integers that came in -/
theorem open_struct3 {H : Type} {enc : TypeId × Value → H} {P : Program} {w : World} {r : Reach} {b0 : Nat} {spare : Nat → Bool} {held : Bool} {t : TypeId} {fs : Array Field} {k0 k1 k2 : IntKind} {v : Value} {d : DataW H} {p : List MemPlace}
    (ht : P.underlying t = some (.struct fs)) (hs : fs.size = 3) (hf : ∀ j f, fs[j]? = some f → f.offset = j ∧ P.cellsOf f.type = 1 ∧ P.underlying f.type = some (.int ([k0, k1, k2].getD j .i64)))
    (hC : P.cellsOf t = 3) (hv : Value.okWide P w r b0 t v) (h : DataW.Trod enc P w 0 spare held t v d p) :
    ∃ a b c : Int, v = .agg #[.int k0 a, .int k1 b, .int k2 c] ∧ (Lit.int k0 a).wf = true ∧ (Lit.int k1 b).wf = true ∧ (Lit.int k2 c).wf = true := by
  obtain ⟨cs, rfl, hcs⟩ := okWide_struct ht hv
  obtain ⟨fuel, hfu⟩ := h
  obtain ⟨z, hz, _⟩ := struct_ints [k0, k1, k2] ht hs hf hfu
  have h0 := hz 0 (by simp)
  have h1 := hz 1 (by simp)
  have h2 := hz 2 (by simp)
  refine ⟨z 0, z 1, z 2, ?_, h0.2, h1.2, h2.2⟩
  congr 1
  apply Array.ext_getElem?
  intro j
  have c0 : (Value.agg cs).cells.toList = cs.toList := rfl
  rw [c0] at hz h0 h1 h2
  rcases Nat.lt_or_ge j 3 with hj | hj
  · obtain rfl | rfl | rfl : j = 0 ∨ j = 1 ∨ j = 2 := by omega
    · simpa using h0.1
    · simpa using h1.1
    · simpa using h2.1
  · rw [Array.getElem?_eq_none (by omega), Array.getElem?_eq_none (by simpa using hj)]
end Go.Proofs.YtfgcgjogaaofdaaGreatDoor
