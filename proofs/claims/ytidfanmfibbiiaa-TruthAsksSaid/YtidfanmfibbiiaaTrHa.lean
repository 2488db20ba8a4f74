/-
  Operations that came in.
-/
import Derived.Test.YtidfanmfibbiiaaTrGb
import Derived.Test.YtidfanmfibbiiaaMaO
namespace Go.Proofs.Ytidfanmfibbiiaa
open Go.RowKit
open Go.ChangeShapes Go.WideShapes Go.Deep
section
variable {H : Type} {enc : TypeId × Value → H} {w : World} {spare : Nat → Bool} {held : Bool}
set_option maxRecDepth 100000 in
theorem labs_of {fuel : Nat} {v : Value} {x : DataW H × List MemPlace} (h : DataW.trod enc Try.prog w 0 spare held fuel 35 [v] = some x) :
    ∃ (A : Option Addr) (n c : Nat) (f : Nat → Lab), v = .slice A n c ∧ n ≤ maxLen ∧ (A = none → n = 0 ∧ c = 0) ∧ (∀ i, i < n → (f i).1.size ≤ maxLen ∧ (f i).2.size ≤ maxLen) ∧ LabRow w A n f := by
  obtain ⟨A, n, c, f, rfl, h1, h2, h3⟩ := labs_of_trod h
  refine ⟨A, n, c, f, rfl, h1, fun e => ?_, h2, h3⟩
  subst e
  rcases open_slice_pairs Try.underlying35 Try.underlying60 rfl rfl rfl rfl rfl h with ⟨hcs, _⟩ | ⟨a, len, cap, m, n', V0, V1, D0, D1, P0, P1, hcs, _⟩
  · have e := (List.cons.inj hcs).1
    cases e
    exact ⟨rfl, rfl⟩
  · have e := (List.cons.inj hcs).1
    cases e
set_option maxRecDepth 100000 in
theorem mats_of {fuel : Nat} {v : Value} {x : DataW H × List MemPlace} (hf : DataW.trod enc Try.prog w 0 spare held fuel 36 [v] = some x) :
    ∃ (A : Option Addr) (n c : Nat) (m : Nat → Mat), v = .slice A n c ∧ n ≤ maxLen ∧ (A = none → n = 0 ∧ c = 0) ∧ (∀ i, i < n → (m i).n.size ≤ maxLen ∧ (m i).v.size ≤ maxLen) ∧ Row 3 (mx m) w A n := by
  rcases open_slice Try.underlying36 hf with ⟨hcs, _⟩ | ⟨a, len, cap, m, n', D, Pl, hcs, _, hl, hm, hmm, _, hi⟩
  · obtain rfl := (List.cons.inj hcs).1
    exact ⟨none, 0, 0, fun _ => ⟨0, ByteArray.empty, ByteArray.empty⟩, rfl, by simp, fun _ => ⟨rfl, rfl⟩, fun i hi => absurd hi (by omega), fun h => absurd h (by omega)⟩
  · obtain rfl := (List.cons.inj hcs).1
    have hc3 : Try.prog.cellsOf 79 = 3 := by kernel_rfl
    have hlm : len ≤ m := by rw [hmm]; split <;> omega
    have each : ∀ i, i < m → ∃ q : Mat, (∀ j, j < 3 → w.cell? (a.add (i * 3 + j)) = some (if j = 0 then .int .i64 q.k else if j = 1 then .string q.n else .string q.v)) ∧ q.n.size ≤ maxLen ∧ q.v.size ≤ maxLen := fun i him => by
      obtain ⟨cs', h1, h2⟩ := hi i him
      rw [hc3] at h1
      obtain ⟨_, hlen, hcell⟩ := World.cells?_some h1
      obtain ⟨q, rfl, s1, s2⟩ := mat_of_trod h2
      refine ⟨q, fun j hj => ?_, s1, s2⟩
      have e := hcell j (by omega)
      rw [add_add] at e
      rcases (show j = 0 ∨ j = 1 ∨ j = 2 by omega) with rfl | rfl | rfl <;> simpa using e
    have : Inhabited Mat := ⟨⟨0, ByteArray.empty, ByteArray.empty⟩⟩
    obtain ⟨q, hq⟩ := choose_lt each
    refine ⟨some a, len, cap, q, rfl, Nat.le_trans hl hm, (fun h => by cases h), fun i hin => (hq i (by omega)).2, fun hn => ⟨a, rfl, ?_, fun i hin j hj => ?_⟩⟩
    · have := block_lt_of_cell ((hq 0 (by omega)).1 0 (by omega))
      rwa [addr_block] at this
    · exact (hq i (by omega)).1 j hj
set_option maxRecDepth 100000 in
set_option maxHeartbeats 1000000 in
theorem op_of {fuel : Nat} {cs : List Value} {x : DataW H × List MemPlace} (h : DataW.trod enc Try.prog w 0 spare held fuel 39 cs = some x) :
    ∃ o : OpAt, cs = opCells o ∧ OpIn w o ∧ (∀ i, i < o.ln → (o.f i).1.size ≤ maxLen ∧ (o.f i).2.size ≤ maxLen) := by
  obtain ⟨xs, k, hk, hxy, hlen, hxl, hf⟩ := DataW.trod_struct Try.underlying39 h
  have hc : Try.prog.cellsOf 39 = 7 := by kernel_rfl
  rw [hc] at hlen
  match xs, hxl, cs, hlen with
  | [y0, y1, y2, y3, y4, y5, y6], _, [v0, v1, v2, v3, v4, v5, v6], _ =>
    have g0 := hf 0 _ rfl
    have g1 := hf 1 _ rfl
    have g2 := hf 2 _ rfl
    have g3 := hf 3 _ rfl
    have g4 := hf 4 _ rfl
    have g5 := hf 5 _ rfl
    have g6 := hf 6 _ rfl
    have e0 : Try.prog.cellsOf 3 = 1 := by kernel_rfl
    have e1 : Try.prog.cellsOf 35 = 1 := by kernel_rfl
    have e2 : Try.prog.cellsOf 36 = 1 := by kernel_rfl
    have e3 : Try.prog.cellsOf 2 = 1 := by kernel_rfl
    have e4 : Try.prog.cellsOf 37 = 1 := by kernel_rfl
    simp [e0, e1, e2, e3, e4] at g0 g1 g2 g3 g4 g5 g6
    obtain ⟨a0, h0, _⟩ := DataW.trod_int Try.underlying3 g0
    obtain ⟨A1, n1, c1, f1, h1, q1, z1, s1, r1⟩ := labs_of g1
    obtain ⟨A2, n2, c2, f2, h2, q2, z2, s2, r2⟩ := mats_of g2
    obtain ⟨a3, h3, _⟩ := DataW.trod_int Try.underlying2 g3
    obtain ⟨a4, h4, _⟩ := DataW.trod_int Try.underlying2 g4
    obtain ⟨a5, h5, _⟩ := DataW.trod_int Try.underlying37 g5
    obtain ⟨a6, h6, _⟩ := DataW.trod_int Try.underlying3 g6
    refine ⟨⟨a0, A1, n1, c1, f1, A2, n2, c2, f2, a3, a4, a5, a6⟩, ?_, ⟨r1, z1, q1, r2, z2, q2⟩, s1⟩
    rw [h1, h2, show v0 = .int .i64 a0 from (List.cons.inj h0).1, show v3 = .int .i64 a3 from (List.cons.inj h3).1, show v4 = .int .i64 a4 from (List.cons.inj h4).1, show v5 = .int .u64 a5 from (List.cons.inj h5).1, show v6 = .int .i64 a6 from (List.cons.inj h6).1]
    rfl
set_option maxRecDepth 100000 in
set_option maxHeartbeats 1000000 in
theorem open_ops {r : Reach} {b0 : Nat} {v : Value} {d : DataW H} {p : List MemPlace} (hv : Value.okWide Try.prog w r b0 22 v) (h : DataW.Trod enc Try.prog w 0 spare held 22 v d p) :
    ∃ (A : Option Addr) (n c : Nat) (o : Nat → OpAt), v = .slice A n c ∧ n ≤ maxLen ∧ Row 7 (fun i => (o i).cell) w A n ∧ ∀ i, i < n → OpIn w (o i) := by
  obtain ⟨A, n, c, rfl⟩ := okWide_slice Try.underlying22 hv
  obtain ⟨fuel, hf⟩ := h
  rcases open_slice Try.underlying22 hf with ⟨hcs, _⟩ | ⟨a, len, cap, m, n', D, Pl, hcs, _, hl, hm, hmm, _, hi⟩
  · simp [Value.cells] at hcs
    obtain ⟨rfl, rfl, rfl⟩ := hcs
    exact ⟨none, 0, 0, fun _ => ⟨0, none, 0, 0, f0, none, 0, 0, fun _ => ⟨0, ByteArray.empty, ByteArray.empty⟩, 0, 0, 0, 0⟩, rfl, by simp, fun h => absurd h (by omega), fun i hi => absurd hi (by omega)⟩
  · simp [Value.cells] at hcs
    obtain ⟨rfl, rfl, rfl⟩ := hcs
    have hc7 : Try.prog.cellsOf 39 = 7 := by kernel_rfl
    have hlm : n ≤ m := by rw [hmm]; split <;> omega
    have each : ∀ i, i < m → ∃ q : OpAt, (∀ j, j < 7 → w.cell? (a.add (i * 7 + j)) = some (q.cell j)) ∧ OpIn w q := fun i him => by
      obtain ⟨cs', h1, h2⟩ := hi i him
      rw [hc7] at h1
      obtain ⟨_, hlen, hcell⟩ := World.cells?_some h1
      obtain ⟨q, rfl, s1, -⟩ := op_of h2
      refine ⟨q, fun j hj => ?_, s1⟩
      have e := hcell j (by omega)
      rw [add_add] at e
      rcases (show j = 0 ∨ j = 1 ∨ j = 2 ∨ j = 3 ∨ j = 4 ∨ j = 5 ∨ j = 6 by omega) with rfl | rfl | rfl | rfl | rfl | rfl | rfl <;> exact e
    have : Inhabited OpAt := ⟨⟨0, none, 0, 0, f0, none, 0, 0, fun _ => ⟨0, ByteArray.empty, ByteArray.empty⟩, 0, 0, 0, 0⟩⟩
    obtain ⟨q, hq⟩ := choose_lt each
    refine ⟨some a, n, c, q, rfl, Nat.le_trans hl hm, fun hn => ⟨a, rfl, ?_, fun i hin j hj => (hq i (by omega)).1 j hj⟩, fun i hin => (hq i (by omega)).2⟩
    have := block_lt_of_cell ((hq 0 (by omega)).1 0 (by omega))
    rwa [addr_block] at this
set_option maxRecDepth 100000 in
theorem open_intl {r : Reach} {b0 : Nat} {v : Value} {d : DataW H} {p : List MemPlace} (hv : Value.okWide Try.prog w r b0 23 v) (h : DataW.Trod enc Try.prog w 0 spare held 23 v d p) :
    ∃ (A : Option Addr) (n c : Nat) (g : Nat → Int), v = .slice A n c ∧ n ≤ maxLen ∧ Row 1 (fun i _ => .int .i64 (g i)) w A n := by
  obtain ⟨A, n, c, rfl⟩ := okWide_slice Try.underlying23 hv
  obtain ⟨fuel, hf⟩ := h
  rcases open_slice Try.underlying23 hf with ⟨hcs, _⟩ | ⟨a, len, cap, m, n', D, Pl, hcs, _, hl, hm, hmm, _, hi⟩
  · simp [Value.cells] at hcs
    obtain ⟨rfl, rfl, rfl⟩ := hcs
    exact ⟨none, 0, 0, fun _ => 0, rfl, by simp, fun h => absurd h (by omega)⟩
  · simp [Value.cells] at hcs
    obtain ⟨rfl, rfl, rfl⟩ := hcs
    have hc1 : Try.prog.cellsOf 3 = 1 := by kernel_rfl
    have hlm : n ≤ m := by rw [hmm]; split <;> omega
    have each : ∀ i, i < m → ∃ q : Int, w.cell? (a.add (i * 1)) = some (.int .i64 q) := fun i him => by
      obtain ⟨cs', h1, h2⟩ := hi i him
      rw [hc1] at h1
      obtain ⟨_, hlen, hcell⟩ := World.cells?_some h1
      obtain ⟨q, hq, -⟩ := DataW.trod_int Try.underlying3 h2
      have e := hcell 0 (by omega)
      rw [add_add] at e
      refine ⟨q, ?_⟩
      rw [hq] at e
      exact e
    obtain ⟨q, hq⟩ := choose_lt each
    refine ⟨some a, n, c, q, rfl, Nat.le_trans hl hm, fun hn => ⟨a, rfl, ?_, fun i hin j hj => ?_⟩⟩
    · have := block_lt_of_cell (hq 0 (by omega))
      rwa [addr_block] at this
    · obtain rfl : j = 0 := by omega
      exact hq i (by omega)
theorem fewOs_yes {o : Nat → OpAt} {n : Nat} (h : fewOs o n = true) : n ≤ 40 ∧ ∀ i, i < n → fewO (o i) = true := by
  unfold fewOs at h
  rw [Bool.and_eq_true, List.all_eq_true] at h
  exact ⟨of_decide_eq_true h.1, fun i hi => h.2 i (List.mem_range.2 hi)⟩
theorem OpIn.sm {w : World} {o : OpAt} (h : OpIn w o) (hf : fewO o = true) : OpSm w o := by
  unfold fewO at hf
  rw [Bool.and_eq_true] at hf
  obtain ⟨h1, h2⟩ := La.few_yes hf.1
  obtain ⟨h3, h4⟩ := La.few_yes hf.2
  exact ⟨h.labs, h.lnone, h1, h2, h.mats, h.mnone, h3, h4⟩
end
end Go.Proofs.Ytidfanmfibbiiaa
