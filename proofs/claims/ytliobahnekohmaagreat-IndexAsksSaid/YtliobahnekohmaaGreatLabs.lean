/-
  A slice of structs of two texts, come in or of the call's own.
-/
import Derived.Test.YtliobahnekohmaaGreatArr
import Derived.Deep.SlicePairs
import Derived.ChangeSame
namespace Go.Proofs.YtliobahnekohmaaGreat
open Go.RowKit

/-- a name and a value -/
abbrev Lab := ByteArray × ByteArray
theorem addr_block (ad : Addr) (j : Nat) : (ad.add j).block = ad.block := by unfold Addr.add; split <;> rfl
/-- a slice of labels: what its cells hold -/
def LabRow (w : World) (A : Option Addr) (n : Nat) (f : Nat → Lab) : Prop :=
  0 < n → ∃ ad, A = some ad ∧ ad.block < w.heap.size ∧ ∀ i, i < n → w.cell? (ad.add (i * 2)) = some (.string (f i).1) ∧ w.cell? (ad.add (i * 2 + 1)) = some (.string (f i).2)
theorem LabRow.at_ {w w2 : World} {A : Option Addr} {n : Nat} {f : Nat → Lab} (h : LabRow w A n f) (hb : Below w.heap.size w w2) {i : Nat} (hi : i < n) :
    ∃ ad, A = some ad ∧ w2.cell? (ad.add (i * 2)) = some (.string (f i).1) ∧ w2.cell? ⟨(ad.add (i * 2)).block, (ad.add (i * 2)).off + 1, none⟩ = some (.string (f i).2) := by
  obtain ⟨ad, e, hlt, hc⟩ := h (by omega)
  obtain ⟨h0, h1⟩ := hc i hi
  refine ⟨ad, e, (hb.cell (by rw [addr_block]; exact hlt)).trans h0, ?_⟩
  have e2 : (ad.add (i * 2)).add 1 = ⟨(ad.add (i * 2)).block, (ad.add (i * 2)).off + 1, none⟩ := rfl
  rw [← e2, Go.Deep.add_add]
  exact (hb.cell (by rw [addr_block]; exact hlt)).trans h1
theorem LabRow.later {w w2 : World} {A : Option Addr} {n : Nat} {f : Nat → Lab} (h : LabRow w A n f) (hb : Below w.heap.size w w2) : LabRow w2 A n f := fun hn => by
  obtain ⟨ad, e, hlt, hc⟩ := h hn
  refine ⟨ad, e, Nat.lt_of_lt_of_le hlt hb.size, fun i hi => ?_⟩
  obtain ⟨h0, h1⟩ := hc i hi
  exact ⟨(hb.cell (by rw [addr_block]; exact hlt)).trans h0, (hb.cell (by rw [addr_block]; exact hlt)).trans h1⟩
theorem LabRow.less {w : World} {A : Option Addr} {n m : Nat} {f : Nat → Lab} (h : LabRow w A n f) (hm : m ≤ n) : LabRow w A m f := fun hn => by
  obtain ⟨ad, e, hlt, hc⟩ := h (by omega)
  exact ⟨ad, e, hlt, fun i hi => hc i (by omega)⟩
theorem LabRow.eqOn {w : World} {A : Option Addr} {n : Nat} {f g : Nat → Lab} (h : LabRow w A n f) (hfg : ∀ i, i < n → f i = g i) : LabRow w A n g := fun hn => by
  obtain ⟨ad, e, hlt, hc⟩ := h hn
  exact ⟨ad, e, hlt, fun i hi => by rw [← hfg i hi]; exact hc i hi⟩

/-- labels as cells -/
def labCells (L : List Lab) : List Value := L.flatMap fun x => [.string x.1, .string x.2]
theorem labCells_append (L M : List Lab) : labCells (L ++ M) = labCells L ++ labCells M := by simp [labCells]
theorem labCells_length (L : List Lab) : (labCells L).length = L.length * 2 := by
  induction L with
  | nil => rfl
  | cons x L ih =>
    have e : labCells (x :: L) = .string x.1 :: .string x.2 :: labCells L := rfl
    rw [e, List.length_cons, List.length_cons, ih, List.length_cons]; omega
theorem labCells_get : ∀ (L : List Lab) (i : Nat) (h : i < L.length), (labCells L)[i * 2]? = some (.string L[i].1) ∧ (labCells L)[i * 2 + 1]? = some (.string L[i].2)
  | x :: L, 0, _ => ⟨rfl, rfl⟩
  | x :: L, i + 1, h => by
    have := labCells_get L i (by simpa using h)
    have e : labCells (x :: L) = .string x.1 :: .string x.2 :: labCells L := rfl
    rw [e, show (i + 1) * 2 = i * 2 + 1 + 1 from by omega]
    exact this
/-- a row of labels of the call's own -/
theorem own_lab {w : World} {base : Nat} {e : TypeId} {v : Value} {L : List Lab} (h : w.ownsRow base e 2 v L.length (labCells L)) :
    ∃ A c, v = .slice A L.length c ∧ (A = none → L.length = 0 ∧ c = 0) ∧ L.length ≤ c ∧ LabRow w A L.length (fun i => L.getD i (ByteArray.empty, ByteArray.empty)) := by
  rcases h.2 with ⟨rfl, h0⟩ | ⟨g, cap, cur, rfl, hb, hg, hc, _⟩
  · have hz : L.length = 0 := h0
    exact ⟨none, 0, by rw [hz], fun _ => ⟨hz, rfl⟩, by omega, fun hn => by omega⟩
  · refine ⟨some ⟨g, 0, none⟩, cap, rfl, (fun h => by cases h), hc, fun _ => ⟨⟨g, 0, none⟩, rfl, (Array.getElem?_eq_some_iff.1 hg).1, fun i hi => ?_⟩⟩
    have hx := labCells_get L i hi
    constructor
    · rw [Addr.add_lit, Nat.zero_add, World.ownsRow.cellAt h _ (by omega), hx.1]
      simp [List.getD, hi]
    · rw [Addr.add_lit, Nat.zero_add, World.ownsRow.cellAt h _ (by omega), hx.2]
      simp [List.getD, hi]

theorem text_of_trod {H : Type} {enc : TypeId × Value → H} {P : Program} {w : World} {base n : Nat} {spare : Nat → Bool} {held : Bool} {t : TypeId} {v : Value} {x : DataW H × List MemPlace}
    (ht : P.underlying t = some .string) (h : DataW.trod enc P w base spare held n t [v] = some x) : ∃ z : ByteArray, v = .string z ∧ z.size ≤ maxLen := by
  obtain ⟨z, hz, _, hw⟩ := DataW.trod_string ht h
  exact ⟨z, by simpa using hz, hw⟩

open Go.ChangeShapes Go.WideShapes Go.Deep in
theorem open_labs {H : Type} {enc : TypeId × Value → H} {P : Program} {w : World} {r : Reach} {b0 : Nat} {spare : Nat → Bool} {held : Bool} {t e : TypeId} {f0 f1 : Field} {v : Value} {d : DataW H} {p : List MemPlace}
    (ht : P.underlying t = some (.slice e)) (he : P.underlying e = some (.struct #[f0, f1])) (h0 : P.underlying f0.type = some .string) (h1 : P.underlying f1.type = some .string) (c0 : P.cellsOf f0.type = 1) (c1 : P.cellsOf f1.type = 1) (o0 : f0.offset = 0) (o1 : f1.offset = 1) (hC : P.cellsOf e = 2)
    (hv : Value.okWide P w r b0 t v) (h : DataW.Trod enc P w 0 spare held t v d p) :
    ∃ (A : Option Addr) (n c : Nat) (f : Nat → Lab), v = .slice A n c ∧ n ≤ c ∧ c ≤ maxLen ∧ (A = none → n = 0 ∧ c = 0) ∧ (∀ i, i < n → (f i).1.size ≤ maxLen ∧ (f i).2.size ≤ maxLen) ∧ LabRow w A n f := by
  obtain ⟨A, n, c, rfl⟩ := okWide_slice ht hv
  obtain ⟨fuel, hf⟩ := h
  rcases open_slice_pairs ht he hC o0 o1 c0 c1 hf with ⟨hcs, _⟩ | ⟨a, len, cap, m, n', V0, V1, D0, D1, P0, P1, hcs, _, hl, hm, hmm, _, hi⟩
  · simp [Value.cells] at hcs
    obtain ⟨rfl, rfl, rfl⟩ := hcs
    exact ⟨none, 0, 0, fun _ => (ByteArray.empty, ByteArray.empty), rfl, Nat.le_refl _, by simp, fun _ => ⟨rfl, rfl⟩, fun i hi => absurd hi (by omega), fun h => absurd h (by omega)⟩
  · simp [Value.cells] at hcs
    obtain ⟨rfl, rfl, rfl⟩ := hcs
    have hlm : n ≤ m := by rw [hmm]; split <;> omega
    have each : ∀ i, i < m → ∃ q : Lab, V0 i = .string q.1 ∧ V1 i = .string q.2 ∧ q.1.size ≤ maxLen ∧ q.2.size ≤ maxLen := fun i him => by
      obtain ⟨_, _, g0, g1⟩ := hi i him
      obtain ⟨z0, e0, w0⟩ := text_of_trod h0 g0
      obtain ⟨z1, e1, w1⟩ := text_of_trod h1 g1
      exact ⟨(z0, z1), e0, e1, w0, w1⟩
    obtain ⟨q, hq⟩ := choose_lt each
    refine ⟨some a, n, c, q, rfl, hl, hm, (fun h => by cases h), fun i hin => ⟨(hq i (by omega)).2.2.1, (hq i (by omega)).2.2.2⟩, fun hn => ⟨a, rfl, ?_, fun i hin => ?_⟩⟩
    · have := block_lt_of_cell (hi 0 (by omega)).1
      rwa [addr_block] at this
    · obtain ⟨g0, g1, _, _⟩ := hi i (by omega)
      obtain ⟨q0, q1, q2, q3⟩ := hq i (by omega)
      rw [q0] at g0; rw [q1] at g1
      exact ⟨g0, g1⟩
end Go.Proofs.YtliobahnekohmaaGreat
