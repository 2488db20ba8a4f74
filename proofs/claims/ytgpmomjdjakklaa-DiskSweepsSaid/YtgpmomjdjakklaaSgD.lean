/-
  Acts, numbers, and texts that came in.
-/
import Derived.Test.YtgpmomjdjakklaaSgC
import Derived.Deep.Slices
import Derived.OpenShut
namespace Go.Proofs.Ytgpmomjdjakklaa
open Go.RowKit
open Go.ChangeShapes Go.WideShapes Go.Deep
theorem i64_bd {n : Int} (h : (Lit.int .i64 n).wf = true) : -9223372036854775808 ≤ n ∧ n ≤ 9223372036854775807 := by
  unfold Lit.wf at h
  rw [Bool.and_eq_true] at h
  have h1 := of_decide_eq_true h.1
  have h2 := of_decide_eq_true h.2
  have e1 : IntKind.i64.min = -9223372036854775808 := by decide
  have e2 : IntKind.i64.max = 9223372036854775807 := by decide
  rw [e1] at h1
  rw [e2] at h2
  exact ⟨h1, h2⟩
section Came
variable {H : Type} {enc : TypeId × Value → H} {w : World} {spare : Nat → Bool} {held : Bool}
theorem text_of {n : Nat} {v : Value} {x : DataW H × List MemPlace} (h : DataW.trod enc Try.prog w 0 spare held n 9 [v] = some x) : ∃ z : ByteArray, v = .string z ∧ z.size ≤ maxLen := by
  obtain ⟨s, e, -, hs⟩ := DataW.trod_string Try.underlying9 h
  cases e
  exact ⟨s, rfl, hs⟩
set_option maxRecDepth 100000 in
theorem keep_of {fuel : Nat} {v : Value} {x : DataW H × List MemPlace} (hf : DataW.trod enc Try.prog w 0 spare held fuel 23 [v] = some x) :
    ∃ (A : Option Addr) (c : Nat) (k : Sf.Keep), v = .slice A k.n c ∧ KeepIn w A c k := by
  rcases open_slice Try.underlying23 hf with ⟨hcs, _⟩ | ⟨a, len, cap, m, n', D, Pl, hcs, _, hl, hm, hmm, _, hi⟩
  · obtain rfl := (List.cons.inj hcs).1
    exact ⟨none, 0, ⟨fun _ => 0, 0⟩, rfl, fun h => absurd h (Nat.lt_irrefl 0), Nat.zero_le _, fun i hi => absurd hi (Nat.not_lt_zero i)⟩
  · obtain rfl := (List.cons.inj hcs).1
    have hc1 : Try.prog.cellsOf 3 = 1 := by kernel_rfl
    have hlm : len ≤ m := by rw [hmm]; split <;> omega
    have each : ∀ i, i < m → ∃ q : Int, w.cell? (a.add (i * 1)) = some (.int .i64 q) ∧ (Lit.int .i64 q).wf = true := fun i him => by
      obtain ⟨cs', h1, h2⟩ := hi i him
      rw [hc1] at h1
      obtain ⟨_, hlen, hcell⟩ := World.cells?_some h1
      obtain ⟨q, hq, -, hw⟩ := DataW.trod_int Try.underlying3 h2
      have e := hcell 0 (by omega)
      rw [add_add] at e
      refine ⟨q, ?_, hw⟩
      rw [hq] at e
      exact e
    obtain ⟨q, hq⟩ := choose_lt each
    refine ⟨some a, cap, ⟨q, len⟩, rfl, fun hn => ⟨a, rfl, ?_, fun i hin j hj => ?_⟩, Nat.le_trans hl hm, fun i hi => i64_bd (hq i (Nat.lt_of_lt_of_le hi hlm)).2⟩
    · have hn0 : 0 < len := hn
      have := block_lt_of_cell (hq 0 (by omega)).1
      rwa [addr_block] at this
    · obtain rfl : j = 0 := by omega
      have hin0 : i < len := hin
      exact (hq i (by omega)).1
set_option maxRecDepth 100000 in
theorem open_keep {r : Reach} {b0 : Nat} {v : Value} {d : DataW H} {p : List MemPlace} (hv : Value.okWide Try.prog w r b0 23 v) (h : DataW.Trod enc Try.prog w 0 spare held 23 v d p) :
    ∃ (A : Option Addr) (c : Nat) (k : Sf.Keep), v = .slice A k.n c ∧ KeepIn w A c k := by
  obtain ⟨A, n, c, rfl⟩ := okWide_slice Try.underlying23 hv
  obtain ⟨fuel, hf⟩ := h
  exact keep_of hf
end Came
end Go.Proofs.Ytgpmomjdjakklaa
