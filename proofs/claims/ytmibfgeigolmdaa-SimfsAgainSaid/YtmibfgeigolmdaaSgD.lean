/-
  Acts, numbers, and texts that came in.
-/
import Derived.Test.YtmibfgeigolmdaaSgC
import Derived.Deep.Slices
import Derived.OpenShut
namespace Go.Proofs.Ytmibfgeigolmdaa
open Go.RowKit
open Go.ChangeShapes Go.WideShapes Go.Deep
theorem i64_bd {n : Int} (h : (Lit.int .i64 n).wf = true) : -9223372036854775808 ≤ n ∧ n ≤ 9223372036854775807 := by
  unfold Lit.wf at h
  rw [Bool.and_eq_true] at h
  have h1 := of_decide_eq_true h.1
  have h2 := of_decide_eq_true h.2
  have e1 : IntKind.i64.min = -9223372036854775808 := by decide
  have e2 : IntKind.i64.max = 9223372036854775807 := by decide
  rw [e1] at h1
  rw [e2] at h2
  exact ⟨h1, h2⟩
section
variable {H : Type} {enc : TypeId × Value → H} {w : World} {spare : Nat → Bool} {held : Bool}
theorem text_of {n : Nat} {v : Value} {x : DataW H × List MemPlace} (h : DataW.trod enc Try.prog w 0 spare held n 9 [v] = some x) : ∃ z : ByteArray, v = .string z ∧ z.size ≤ maxLen := by
  obtain ⟨s, e, -, hs⟩ := DataW.trod_string Try.underlying9 h
  cases e
  exact ⟨s, rfl, hs⟩
set_option maxRecDepth 100000 in
theorem keep_of {fuel : Nat} {v : Value} {x : DataW H × List MemPlace} (hf : DataW.trod enc Try.prog w 0 spare held fuel 23 [v] = some x) :
    ∃ (A : Option Addr) (c : Nat) (k : Sf.Keep), v = .slice A k.n c ∧ KeepIn w A c k := by
  rcases open_slice Try.underlying23 hf with ⟨hcs, _⟩ | ⟨a, len, cap, m, n', D, Pl, hcs, _, hl, hm, hmm, _, hi⟩
  · obtain rfl := (List.cons.inj hcs).1
    exact ⟨none, 0, ⟨fun _ => 0, 0⟩, rfl, fun h => absurd h (Nat.lt_irrefl 0), Nat.zero_le _, fun i hi => absurd hi (Nat.not_lt_zero i)⟩
  · obtain rfl := (List.cons.inj hcs).1
    have hc1 : Try.prog.cellsOf 3 = 1 := by kernel_rfl
    have hlm : len ≤ m := by rw [hmm]; split <;> omega
    have each : ∀ i, i < m → ∃ q : Int, w.cell? (a.add (i * 1)) = some (.int .i64 q) ∧ (Lit.int .i64 q).wf = true := fun i him => by
      obtain ⟨cs', h1, h2⟩ := hi i him
      rw [hc1] at h1
      obtain ⟨_, hlen, hcell⟩ := World.cells?_some h1
      obtain ⟨q, hq, -, hw⟩ := DataW.trod_int Try.underlying3 h2
      have e := hcell 0 (by omega)
      rw [add_add] at e
      refine ⟨q, ?_, hw⟩
      rw [hq] at e
      exact e
    obtain ⟨q, hq⟩ := choose_lt each
    refine ⟨some a, cap, ⟨q, len⟩, rfl, fun hn => ⟨a, rfl, ?_, fun i hin j hj => ?_⟩, Nat.le_trans hl hm, fun i hi => i64_bd (hq i (Nat.lt_of_lt_of_le hi hlm)).2⟩
    · have hn0 : 0 < len := hn
      have := block_lt_of_cell (hq 0 (by omega)).1
      rwa [addr_block] at this
    · obtain rfl : j = 0 := by omega
      have hin0 : i < len := hin
      exact (hq i (by omega)).1
set_option maxRecDepth 100000 in
theorem open_keep {r : Reach} {b0 : Nat} {v : Value} {d : DataW H} {p : List MemPlace} (hv : Value.okWide Try.prog w r b0 23 v) (h : DataW.Trod enc Try.prog w 0 spare held 23 v d p) :
    ∃ (A : Option Addr) (c : Nat) (k : Sf.Keep), v = .slice A k.n c ∧ KeepIn w A c k := by
  obtain ⟨A, n, c, rfl⟩ := okWide_slice Try.underlying23 hv
  obtain ⟨fuel, hf⟩ := h
  exact keep_of hf
set_option maxRecDepth 100000 in
set_option maxHeartbeats 1000000 in
theorem act_of {fuel : Nat} {cs : List Value} {x : DataW H × List MemPlace} (h : DataW.trod enc Try.prog w 0 spare held fuel 31 cs = some x) :
    ∃ o : ActAt, cs = [.int .i64 o.k, .string o.a, .string o.b, .int .i64 o.n, .slice o.ka o.kp.n o.kc] ∧ ActIn w o := by
  obtain ⟨xs, k, hk, hxy, hlen, hxl, hf⟩ := DataW.trod_struct Try.underlying31 h
  have hc : Try.prog.cellsOf 31 = 5 := by kernel_rfl
  rw [hc] at hlen
  match xs, hxl, cs, hlen with
  | [y0, y1, y2, y3, y4], _, [v0, v1, v2, v3, v4], _ =>
    have g0 := hf 0 _ rfl
    have g1 := hf 1 _ rfl
    have g2 := hf 2 _ rfl
    have g3 := hf 3 _ rfl
    have g4 := hf 4 _ rfl
    have e0 : Try.prog.cellsOf 3 = 1 := by kernel_rfl
    have e1 : Try.prog.cellsOf 9 = 1 := by kernel_rfl
    have e2 : Try.prog.cellsOf 23 = 1 := by kernel_rfl
    simp [e0, e1, e2] at g0 g1 g2 g3 g4
    obtain ⟨a0, h0, _⟩ := DataW.trod_int Try.underlying3 g0
    obtain ⟨a1, h1, s1⟩ := text_of g1
    obtain ⟨a2, h2, s2⟩ := text_of g2
    obtain ⟨a3, h3, _, w3⟩ := DataW.trod_int Try.underlying3 g3
    obtain ⟨A4, c4, k4, h4, q4⟩ := keep_of g4
    refine ⟨⟨a0, a1, a2, a3, A4, c4, k4⟩, ?_, q4, s1, s2, (i64_bd w3).2⟩
    rw [h1, h2, h4, show v0 = .int .i64 a0 from (List.cons.inj h0).1, show v3 = .int .i64 a3 from (List.cons.inj h3).1]
def act0 : ActAt := ⟨0, ByteArray.empty, ByteArray.empty, 0, none, 0, ⟨fun _ => 0, 0⟩⟩
set_option maxRecDepth 100000 in
set_option maxHeartbeats 1000000 in
theorem open_acts {r : Reach} {b0 : Nat} {v : Value} {d : DataW H} {p : List MemPlace} (hv : Value.okWide Try.prog w r b0 22 v) (h : DataW.Trod enc Try.prog w 0 spare held 22 v d p) :
    ∃ (A : Option Addr) (n c : Nat) (o : Nat → ActAt), v = .slice A n c ∧ n ≤ maxLen ∧ Row 5 (fun i => (o i).cell) w A n ∧ ∀ i, i < n → ActIn w (o i) := by
  obtain ⟨A, n, c, rfl⟩ := okWide_slice Try.underlying22 hv
  obtain ⟨fuel, hf⟩ := h
  rcases open_slice Try.underlying22 hf with ⟨hcs, _⟩ | ⟨a, len, cap, m, n', D, Pl, hcs, _, hl, hm, hmm, _, hi⟩
  · simp [Value.cells] at hcs
    obtain ⟨rfl, rfl, rfl⟩ := hcs
    exact ⟨none, 0, 0, fun _ => act0, rfl, by simp, fun h => absurd h (by omega), fun i hi => absurd hi (by omega)⟩
  · simp [Value.cells] at hcs
    obtain ⟨rfl, rfl, rfl⟩ := hcs
    have hc5 : Try.prog.cellsOf 31 = 5 := by kernel_rfl
    have hlm : n ≤ m := by rw [hmm]; split <;> omega
    have each : ∀ i, i < m → ∃ q : ActAt, (∀ j, j < 5 → w.cell? (a.add (i * 5 + j)) = some (q.cell j)) ∧ ActIn w q := fun i him => by
      obtain ⟨cs', h1, h2⟩ := hi i him
      rw [hc5] at h1
      obtain ⟨_, hlen, hcell⟩ := World.cells?_some h1
      obtain ⟨q, rfl, s1⟩ := act_of h2
      refine ⟨q, fun j hj => ?_, s1⟩
      have e := hcell j (by omega)
      rw [add_add] at e
      rcases (show j = 0 ∨ j = 1 ∨ j = 2 ∨ j = 3 ∨ j = 4 by omega) with rfl | rfl | rfl | rfl | rfl <;> exact e
    have : Inhabited ActAt := ⟨act0⟩
    obtain ⟨q, hq⟩ := choose_lt each
    refine ⟨some a, n, c, q, rfl, Nat.le_trans hl hm, fun hn => ⟨a, rfl, ?_, fun i hin j hj => (hq i (by omega)).1 j hj⟩, fun i hin => (hq i (by omega)).2⟩
    have := block_lt_of_cell ((hq 0 (by omega)).1 0 (by omega))
    rwa [addr_block] at this
end
end Go.Proofs.Ytmibfgeigolmdaa
