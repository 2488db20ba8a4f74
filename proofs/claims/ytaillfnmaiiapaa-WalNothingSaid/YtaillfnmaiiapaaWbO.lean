/-
  Changes and texts that came in.
-/
import Derived.Test.YtaillfnmaiiapaaWbB
import Derived.Test.YtaillfnmaiiapaaNumO
import Derived.Deep.Slices
import Derived.OpenShut
import Derived.ChangeOld
namespace Go.Proofs.Ytaillfnmaiiapaa
open Go.RowKit
open Go.ChangeShapes Go.WideShapes Go.Deep
section
variable {H : Type} {enc : TypeId × Value → H} {w : World} {spare : Nat → Bool} {held : Bool}
set_option maxRecDepth 100000 in
theorem labs_of {fuel : Nat} {v : Value} {x : DataW H × List MemPlace} (h : DataW.trod enc Try.prog w 0 spare held fuel 49 [v] = some x) :
    ∃ (A : Option Addr) (l : List Lab) (c : Nat), v = .slice A l.length c ∧ l.length ≤ maxLen ∧ (A = none → l.length = 0 ∧ c = 0) ∧ LabRow w A l.length (La.at_ l) := by
  rcases open_slice_pairs Try.underlying49 Try.underlying54 rfl rfl rfl rfl rfl h with ⟨hcs, _⟩ | ⟨a, len, cap, m, n', V0, V1, D0, D1, P0, P1, hcs, _, hl, hm, hmm, _, hi⟩
  · exact ⟨none, [], 0, (List.cons.inj hcs).1, by simp, fun _ => ⟨rfl, rfl⟩, fun h => absurd h (Nat.lt_irrefl 0)⟩
  · have hlm : len ≤ m := by rw [hmm]; split <;> omega
    have each : ∀ i, i < m → ∃ q : Lab, V0 i = .string q.1 ∧ V1 i = .string q.2 := fun i him => by
      obtain ⟨_, _, g0, g1⟩ := hi i him
      obtain ⟨z0, e0, w0⟩ := text_of_trod Try.underlying9 g0
      obtain ⟨z1, e1, w1⟩ := text_of_trod Try.underlying9 g1
      exact ⟨(z0, z1), e0, e1⟩
    have : Inhabited Lab := ⟨(ByteArray.empty, ByteArray.empty)⟩
    obtain ⟨q, hq⟩ := choose_lt each
    have hlen : ((List.range len).map q).length = len := by simp
    refine ⟨some a, (List.range len).map q, cap, by rw [hlen]; exact (List.cons.inj hcs).1, by rw [hlen]; exact Nat.le_trans hl hm, (fun h => by cases h), ?_⟩
    rw [hlen]
    intro hn
    refine ⟨a, rfl, ?_, fun i hin => ?_⟩
    · have := block_lt_of_cell (hi 0 (by omega)).1
      rwa [addr_block] at this
    · obtain ⟨g0, g1, _, _⟩ := hi i (by omega)
      obtain ⟨q0, q1⟩ := hq i (by omega)
      rw [q0] at g0; rw [q1] at g1
      have e : La.at_ ((List.range len).map q) i = q i := by unfold La.at_; simp [List.getD, hin]
      rw [e]
      exact ⟨g0, g1⟩
def RAt.cells (x : RAt) : List Value := [.int .i64 x.r.kind, .slice x.A x.r.l.length x.c, .int .i64 x.r.t, .int .i64 x.r.hi, .int .u64 (x.r.v : Int)]
structure RAt.Came (w : World) (x : RAt) : Prop where
  labs : LabRow w x.A x.r.l.length (La.at_ x.r.l)
  words : Wa.Words x.r
  len : x.r.l.length ≤ maxLen
set_option maxRecDepth 100000 in
set_option maxHeartbeats 1000000 in
theorem rec_of {fuel : Nat} {cs : List Value} {x : DataW H × List MemPlace} (h : DataW.trod enc Try.prog w 0 spare held fuel 52 cs = some x) :
    ∃ o : RAt, cs = o.cells ∧ o.Came w := by
  obtain ⟨xs, k, hk, hxy, hlen, hxl, hf⟩ := DataW.trod_struct Try.underlying52 h
  have hc : Try.prog.cellsOf 52 = 5 := by kernel_rfl
  rw [hc] at hlen
  match xs, hxl, cs, hlen with
  | [y0, y1, y2, y3, y4], _, [v0, v1, v2, v3, v4], _ =>
    have g0 := hf 0 _ rfl
    have g1 := hf 1 _ rfl
    have g2 := hf 2 _ rfl
    have g3 := hf 3 _ rfl
    have g4 := hf 4 _ rfl
    have e0 : Try.prog.cellsOf 3 = 1 := by kernel_rfl
    have e1 : Try.prog.cellsOf 49 = 1 := by kernel_rfl
    have e3 : Try.prog.cellsOf 2 = 1 := by kernel_rfl
    have e4 : Try.prog.cellsOf 50 = 1 := by kernel_rfl
    simp [e0, e1, e3, e4] at g0 g1 g2 g3 g4
    obtain ⟨a0, h0, _⟩ := DataW.trod_int Try.underlying3 g0
    obtain ⟨A1, l, c1, h1, q1, z1, r1⟩ := labs_of g1
    obtain ⟨a2, h2, _, w2⟩ := DataW.trod_int Try.underlying2 g2
    obtain ⟨a3, h3, _, w3⟩ := DataW.trod_int Try.underlying2 g3
    obtain ⟨a4, h4, _, w4⟩ := DataW.trod_int Try.underlying50 g4
    obtain ⟨n4, rfl, b4⟩ := u64_nat a4 w4
    have b2 := (i64_bd a2 w2).out
    have b3 := (i64_bd a3 w3).out
    refine ⟨⟨⟨a0, l, a2, a3, n4⟩, A1, c1⟩, ?_, ⟨r1, ⟨b2.1, b2.2, b3.1, b3.2, b4.out⟩, q1⟩⟩
    rw [h1, show v0 = .int .i64 a0 from (List.cons.inj h0).1, show v2 = .int .i64 a2 from (List.cons.inj h2).1, show v3 = .int .i64 a3 from (List.cons.inj h3).1, show v4 = .int .u64 (n4 : Int) from (List.cons.inj h4).1]
    rfl
theorem rx_cells (q : Nat → RAt) (i j : Nat) (hj : j < 5) : (q i).cells[j]? = some (rx q i j) := by
  rcases (show j = 0 ∨ j = 1 ∨ j = 2 ∨ j = 3 ∨ j = 4 by omega) with rfl | rfl | rfl | rfl | rfl <;> rfl
set_option maxRecDepth 100000 in
set_option maxHeartbeats 1000000 in
theorem recs_of {fuel : Nat} {v : Value} {x : DataW H × List MemPlace} (hf : DataW.trod enc Try.prog w 0 spare held fuel 25 [v] = some x) :
    ∃ (A : Option Addr) (n c : Nat) (q : Nat → RAt), v = .slice A n c ∧ n ≤ maxLen ∧ (A = none → n = 0 ∧ c = 0) ∧ RecsRaw w A n q := by
  rcases open_slice Try.underlying25 hf with ⟨hcs, _⟩ | ⟨a, len, cap, m, n', D, Pl, hcs, _, hl, hm, hmm, _, hi⟩
  · obtain rfl := (List.cons.inj hcs).1
    exact ⟨none, 0, 0, fun _ => ⟨⟨0, [], 0, 0, 0⟩, none, 0⟩, rfl, by simp, fun _ => ⟨rfl, rfl⟩, fun h => absurd h (by omega), fun i hi => absurd hi (by omega), fun i hi => absurd hi (by omega), fun i hi => absurd hi (by omega)⟩
  · obtain rfl := (List.cons.inj hcs).1
    have hc5 : Try.prog.cellsOf 52 = 5 := by kernel_rfl
    have hlm : len ≤ m := by rw [hmm]; split <;> omega
    have each : ∀ i, i < m → ∃ q : RAt, (∀ j, j < 5 → w.cell? (a.add (i * 5 + j)) = q.cells[j]?) ∧ q.Came w := fun i him => by
      obtain ⟨cs', h1, h2⟩ := hi i him
      rw [hc5] at h1
      obtain ⟨_, hlen, hcell⟩ := World.cells?_some h1
      obtain ⟨q, rfl, s1⟩ := rec_of h2
      refine ⟨q, fun j hj => ?_, s1⟩
      have e := hcell j (by omega)
      rw [add_add] at e
      rw [e]
    have : Inhabited RAt := ⟨⟨⟨0, [], 0, 0, 0⟩, none, 0⟩⟩
    obtain ⟨q, hq⟩ := choose_lt each
    refine ⟨some a, len, cap, q, rfl, Nat.le_trans hl hm, (fun h => by cases h), ⟨fun hn => ⟨a, rfl, ?_, fun i hin j hj => ?_⟩, fun i hin => (hq i (by omega)).2.labs, fun i hin => (hq i (by omega)).2.words, fun i hin => (hq i (by omega)).2.len⟩⟩
    · have := block_lt_of_cell ((hq 0 (by omega)).1 0 (by omega))
      rwa [addr_block] at this
    · rw [(hq i (by omega)).1 j hj]
      exact rx_cells q i j hj
set_option maxRecDepth 100000 in
theorem open_recs {r : Reach} {b0 : Nat} {v : Value} {d : DataW H} {p : List MemPlace} (hv : Value.okWide Try.prog w r b0 25 v) (h : DataW.Trod enc Try.prog w 0 spare held 25 v d p) :
    ∃ (A : Option Addr) (n c : Nat) (q : Nat → RAt), v = .slice A n c ∧ n ≤ maxLen ∧ (A = none → n = 0 ∧ c = 0) ∧ RecsRaw w A n q := by
  obtain ⟨A, n, c, rfl⟩ := okWide_slice Try.underlying25 hv
  obtain ⟨fuel, hf⟩ := h
  exact recs_of hf
set_option maxRecDepth 100000 in
theorem open_keys {r : Reach} {b0 : Nat} {v : Value} {d : DataW H} {p : List MemPlace} (hv : Value.okWide Try.prog w r b0 30 v) (h : DataW.Trod enc Try.prog w 0 spare held 30 v d p) :
    ∃ (A : Option Addr) (K : List ByteArray) (c : Nat), v = .slice A K.length c ∧ K.length ≤ maxLen ∧ (A = none → K.length = 0 ∧ c = 0) ∧ Row 1 (kx K) w A K.length := by
  obtain ⟨A, n, c, rfl⟩ := okWide_slice Try.underlying30 hv
  obtain ⟨fuel, hf⟩ := h
  rcases open_slice Try.underlying30 hf with ⟨hcs, _⟩ | ⟨a, len, cap, m, n', D, Pl, hcs, _, hl, hm, hmm, _, hi⟩
  · simp [Value.cells] at hcs
    obtain ⟨rfl, rfl, rfl⟩ := hcs
    exact ⟨none, [], 0, rfl, by simp, fun _ => ⟨rfl, rfl⟩, fun h => absurd h (Nat.lt_irrefl 0)⟩
  · simp [Value.cells] at hcs
    obtain ⟨rfl, rfl, rfl⟩ := hcs
    have hc1 : Try.prog.cellsOf 9 = 1 := by kernel_rfl
    have hlm : n ≤ m := by rw [hmm]; split <;> omega
    have each : ∀ i, i < m → ∃ q : ByteArray, w.cell? (a.add (i * 1)) = some (.string q) := fun i him => by
      obtain ⟨cs', h1, h2⟩ := hi i him
      rw [hc1] at h1
      obtain ⟨_, hlen, hcell⟩ := World.cells?_some h1
      obtain ⟨q, hq, -, hw⟩ := DataW.trod_string Try.underlying9 h2
      have e := hcell 0 (by omega)
      rw [add_add] at e
      refine ⟨q, ?_⟩
      rw [hq] at e
      exact e
    have : Inhabited ByteArray := ⟨ByteArray.empty⟩
    obtain ⟨q, hq⟩ := choose_lt each
    have hlen : ((List.range n).map q).length = n := by simp
    refine ⟨some a, (List.range n).map q, c, by rw [hlen], by rw [hlen]; exact Nat.le_trans hl hm, (fun h => by cases h), ?_⟩
    rw [hlen]
    refine fun hn => ⟨a, rfl, ?_, fun i hin j hj => ?_⟩
    · have := block_lt_of_cell (hq 0 (by omega))
      rwa [addr_block] at this
    · obtain rfl : j = 0 := by omega
      have e : kx ((List.range n).map q) i 0 = .string (q i) := by unfold kx; simp [List.getD, hin]
      rw [e]
      exact hq i (by omega)
end
end Go.Proofs.Ytaillfnmaiiapaa
