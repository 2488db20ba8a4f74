/-
  A slice of structs of two integers that came in.
-/
import Derived.Test.YtidfanmfibbiiaaBase
import Derived.Deep.SlicePairs
import Derived.ChangeSame
namespace Go.Proofs.Ytidfanmfibbiiaa
open Go.RowKit

/-- a slice of structs of two integers that came in: what its cells hold -/
def PairRow (w : World) (A : Option Addr) (n : Nat) (k0 k1 : IntKind) (f : Nat → Int × Int) : Prop :=
  0 < n → ∃ ad, A = some ad ∧ ad.block < w.heap.size ∧ ∀ i, i < n → w.cell? (ad.add (i * 2)) = some (.int k0 (f i).1) ∧ w.cell? (ad.add (i * 2 + 1)) = some (.int k1 (f i).2) ∧ (Lit.int k0 (f i).1).wf = true ∧ (Lit.int k1 (f i).2).wf = true
theorem PairRow.at_ {w w2 : World} {A : Option Addr} {n : Nat} {k0 k1 : IntKind} {f : Nat → Int × Int} (h : PairRow w A n k0 k1 f) (hb : Below w.heap.size w w2) {i : Nat} (hi : i < n) :
    ∃ ad, A = some ad ∧ w2.cell? (ad.add (i * 2)) = some (.int k0 (f i).1) ∧ w2.cell? (ad.add (i * 2 + 1)) = some (.int k1 (f i).2) ∧ (Lit.int k0 (f i).1).wf = true ∧ (Lit.int k1 (f i).2).wf = true := by
  obtain ⟨ad, e, hlt, hc⟩ := h (by omega)
  obtain ⟨h0, h1, h2, h3⟩ := hc i hi
  have hbl : ∀ j, (ad.add j).block = ad.block := fun j => by unfold Addr.add; split <;> rfl
  exact ⟨ad, e, (hb.cell (by rw [hbl]; exact hlt)).trans h0, (hb.cell (by rw [hbl]; exact hlt)).trans h1, h2, h3⟩

theorem wf_of_trod_int {H : Type} {enc : TypeId × Value → H} {P : Program} {w : World} {base n : Nat} {spare : Nat → Bool} {held : Bool} {t : TypeId} {k : IntKind} {v : Value} {x : DataW H × List MemPlace}
    (ht : P.underlying t = some (.int k)) (h : DataW.trod enc P w base spare held n t [v] = some x) : ∃ z, v = .int k z ∧ (Lit.int k z).wf = true := by
  obtain ⟨z, hz, _, hw⟩ := DataW.trod_int ht h
  exact ⟨z, by simpa using hz, hw⟩
theorem PairRow.more {w w2 : World} {ad : Addr} {n : Nat} {k0 k1 : IntKind} {f : Nat → Int × Int} (h : PairRow w (some ad) n k0 k1 f) (hb : Below w.heap.size w w2) {i : Nat} (hi : i < n) :
    w2.cell? (ad.add (i * 2)) = some (.int k0 (f i).1) ∧ w2.cell? ⟨(ad.add (i * 2)).block, (ad.add (i * 2)).off + 1, none⟩ = some (.int k1 (f i).2) := by
  obtain ⟨ad', e, h0, h1, _⟩ := h.at_ hb hi
  cases e
  refine ⟨h0, ?_⟩
  have e2 : (ad.add (i * 2)).add 1 = ⟨(ad.add (i * 2)).block, (ad.add (i * 2)).off + 1, none⟩ := rfl
  rw [← e2, Go.Deep.add_add]; exact h1

open Go.ChangeShapes Go.WideShapes Go.Deep in
theorem open_pairs {H : Type} {enc : TypeId × Value → H} {P : Program} {w : World} {r : Reach} {b0 : Nat} {spare : Nat → Bool} {held : Bool} {t e : TypeId} {k0 k1 : IntKind} {f0 f1 : Field} {v : Value} {d : DataW H} {p : List MemPlace}
    (ht : P.underlying t = some (.slice e)) (he : P.underlying e = some (.struct #[f0, f1])) (h0 : P.underlying f0.type = some (.int k0)) (h1 : P.underlying f1.type = some (.int k1)) (c0 : P.cellsOf f0.type = 1) (c1 : P.cellsOf f1.type = 1) (o0 : f0.offset = 0) (o1 : f1.offset = 1) (hC : P.cellsOf e = 2)
    (hv : Value.okWide P w r b0 t v) (h : DataW.Trod enc P w 0 spare held t v d p) :
    ∃ (A : Option Addr) (n c : Nat) (f : Nat → Int × Int), v = .slice A n c ∧ n ≤ maxLen ∧ PairRow w A n k0 k1 f := by
  obtain ⟨A, n, c, rfl⟩ := okWide_slice ht hv
  obtain ⟨fuel, hf⟩ := h
  rcases open_slice_pairs ht he hC o0 o1 c0 c1 hf with ⟨hcs, _⟩ | ⟨a, len, cap, m, n', V0, V1, D0, D1, P0, P1, hcs, _, hl, hm, hmm, _, hi⟩
  · simp [Value.cells] at hcs
    obtain ⟨rfl, rfl, rfl⟩ := hcs
    exact ⟨none, 0, 0, fun _ => (0, 0), rfl, by simp, fun h => absurd h (by omega)⟩
  · simp [Value.cells] at hcs
    obtain ⟨rfl, rfl, rfl⟩ := hcs
    have hlm : n ≤ m := by rw [hmm]; split <;> omega
    have each : ∀ i, i < m → ∃ q : Int × Int, V0 i = .int k0 q.1 ∧ V1 i = .int k1 q.2 ∧ (Lit.int k0 q.1).wf = true ∧ (Lit.int k1 q.2).wf = true := fun i him => by
      obtain ⟨_, _, g0, g1⟩ := hi i him
      obtain ⟨z0, e0, w0⟩ := wf_of_trod_int h0 g0
      obtain ⟨z1, e1, w1⟩ := wf_of_trod_int h1 g1
      exact ⟨(z0, z1), e0, e1, w0, w1⟩
    obtain ⟨q, hq⟩ := choose_lt each
    refine ⟨some a, n, c, q, rfl, by omega, fun hn => ⟨a, rfl, ?_, fun i hin => ?_⟩⟩
    · have := block_lt_of_cell (hi 0 (by omega)).1
      have hbl : (a.add (0 * 2)).block = a.block := by unfold Addr.add; split <;> rfl
      rwa [hbl] at this
    · obtain ⟨g0, g1, _, _⟩ := hi i (by omega)
      obtain ⟨q0, q1, q2, q3⟩ := hq i (by omega)
      rw [q0] at g0; rw [q1] at g1
      exact ⟨g0, g1, q2, q3⟩
end Go.Proofs.Ytidfanmfibbiiaa
