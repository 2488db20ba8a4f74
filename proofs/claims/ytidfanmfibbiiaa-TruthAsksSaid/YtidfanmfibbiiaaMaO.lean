/-
  Matchers, and slices of slices of labels, that came in.
-/
import Derived.Test.YtidfanmfibbiiaaMaF
import Derived.Deep.Slices
import Derived.OpenShut
namespace Go.Proofs.Ytidfanmfibbiiaa
open Go.RowKit
open Go.ChangeShapes Go.WideShapes Go.Deep
section
variable {H : Type} {enc : TypeId × Value → H} {w : World} {spare : Nat → Bool} {held : Bool}
set_option maxRecDepth 100000 in
theorem mat_of_trod {base fuel : Nat} {cs : List Value} {x : DataW H × List MemPlace} (h : DataW.trod enc Try.prog w base spare held fuel 79 cs = some x) :
    ∃ m : Mat, cs = [.int .i64 m.k, .string m.n, .string m.v] ∧ m.n.size ≤ maxLen ∧ m.v.size ≤ maxLen := by
  obtain ⟨xs, k, hk, hxy, hlen, hxl, hf⟩ := DataW.trod_struct Try.underlying79 h
  have hc : Try.prog.cellsOf 79 = 3 := by kernel_rfl
  rw [hc] at hlen
  match xs, hxl, cs, hlen with
  | [y0, y1, y2], _, [v0, v1, v2], _ =>
    have g0 := hf 0 _ rfl
    have g1 := hf 1 _ rfl
    have g2 := hf 2 _ rfl
    have e0 : Try.prog.cellsOf 3 = 1 := by kernel_rfl
    have e1 : Try.prog.cellsOf 9 = 1 := by kernel_rfl
    simp [e0, e1] at g0 g1 g2
    obtain ⟨a, ha, _⟩ := DataW.trod_int Try.underlying3 g0
    obtain ⟨b, hb, hbs⟩ := text_of_trod Try.underlying9 g1
    obtain ⟨c, hcc, hcs⟩ := text_of_trod Try.underlying9 g2
    exact ⟨⟨a, b, c⟩, by rw [show v0 = .int .i64 a from (List.cons.inj ha).1, hb, hcc], hbs, hcs⟩
set_option maxRecDepth 100000 in
theorem open_mat {r : Reach} {b0 : Nat} {v : Value} {d : DataW H} {p : List MemPlace} (hv : Value.okWide Try.prog w r b0 79 v) (h : DataW.Trod enc Try.prog w 0 spare held 79 v d p) :
    ∃ m : Mat, v = m.val ∧ m.n.size ≤ maxLen ∧ m.v.size ≤ maxLen := by
  obtain ⟨cs, rfl, hcs⟩ := okWide_struct Try.underlying79 hv
  obtain ⟨fuel, hfu⟩ := h
  obtain ⟨m, hm, h1, h2⟩ := mat_of_trod hfu
  have c0 : (Value.agg cs).cells.toList = cs.toList := rfl
  rw [c0] at hm
  refine ⟨m, ?_, h1, h2⟩
  have : cs = #[.int .i64 m.k, .string m.n, .string m.v] := Array.toList_inj.1 hm
  rw [this]; rfl
set_option maxRecDepth 100000 in
theorem open_mats {r : Reach} {b0 : Nat} {v : Value} {d : DataW H} {p : List MemPlace} (hv : Value.okWide Try.prog w r b0 36 v) (h : DataW.Trod enc Try.prog w 0 spare held 36 v d p) :
    ∃ (A : Option Addr) (n c : Nat) (m : Nat → Mat), v = .slice A n c ∧ n ≤ c ∧ c ≤ maxLen ∧ (A = none → n = 0 ∧ c = 0) ∧ (∀ i, i < n → (m i).n.size ≤ maxLen ∧ (m i).v.size ≤ maxLen) ∧ Row 3 (mx m) w A n := by
  obtain ⟨A, n, c, rfl⟩ := okWide_slice Try.underlying36 hv
  obtain ⟨fuel, hf⟩ := h
  rcases open_slice Try.underlying36 hf with ⟨hcs, _⟩ | ⟨a, len, cap, m, n', D, Pl, hcs, _, hl, hm, hmm, _, hi⟩
  · simp [Value.cells] at hcs
    obtain ⟨rfl, rfl, rfl⟩ := hcs
    exact ⟨none, 0, 0, fun _ => ⟨0, ByteArray.empty, ByteArray.empty⟩, rfl, Nat.le_refl _, by simp, fun _ => ⟨rfl, rfl⟩, fun i hi => absurd hi (by omega), fun h => absurd h (by omega)⟩
  · simp [Value.cells] at hcs
    obtain ⟨rfl, rfl, rfl⟩ := hcs
    have hc3 : Try.prog.cellsOf 79 = 3 := by kernel_rfl
    have hlm : n ≤ m := by rw [hmm]; split <;> omega
    have each : ∀ i, i < m → ∃ q : Mat, (∀ j, j < 3 → w.cell? (a.add (i * 3 + j)) = some (if j = 0 then .int .i64 q.k else if j = 1 then .string q.n else .string q.v)) ∧ q.n.size ≤ maxLen ∧ q.v.size ≤ maxLen := fun i him => by
      obtain ⟨cs', h1, h2⟩ := hi i him
      rw [hc3] at h1
      obtain ⟨_, hlen, hcell⟩ := World.cells?_some h1
      obtain ⟨q, rfl, s1, s2⟩ := mat_of_trod h2
      refine ⟨q, fun j hj => ?_, s1, s2⟩
      have e := hcell j (by omega)
      rw [add_add] at e
      rcases (show j = 0 ∨ j = 1 ∨ j = 2 by omega) with rfl | rfl | rfl <;> simpa using e
    have : Inhabited Mat := ⟨⟨0, ByteArray.empty, ByteArray.empty⟩⟩
    obtain ⟨q, hq⟩ := choose_lt each
    refine ⟨some a, n, c, q, rfl, hl, hm, (fun h => by cases h), fun i hin => (hq i (by omega)).2, fun hn => ⟨a, rfl, ?_, fun i hin j hj => ?_⟩⟩
    · have := block_lt_of_cell ((hq 0 (by omega)).1 0 (by omega))
      rwa [addr_block] at this
    · exact (hq i (by omega)).1 j hj
set_option maxRecDepth 100000 in
theorem labs_of_trod {fuel : Nat} {v : Value} {x : DataW H × List MemPlace} (h : DataW.trod enc Try.prog w 0 spare held fuel 35 [v] = some x) :
    ∃ (A : Option Addr) (n c : Nat) (f : Nat → Lab), v = .slice A n c ∧ n ≤ maxLen ∧ (∀ i, i < n → (f i).1.size ≤ maxLen ∧ (f i).2.size ≤ maxLen) ∧ LabRow w A n f := by
  rcases open_slice_pairs Try.underlying35 Try.underlying60 rfl rfl rfl rfl rfl h with ⟨hcs, _⟩ | ⟨a, len, cap, m, n', V0, V1, D0, D1, P0, P1, hcs, _, hl, hm, hmm, _, hi⟩
  · exact ⟨none, 0, 0, fun _ => (ByteArray.empty, ByteArray.empty), (List.cons.inj hcs).1, by simp, fun i hi => absurd hi (by omega), fun h => absurd h (by omega)⟩
  · have hlm : len ≤ m := by rw [hmm]; split <;> omega
    have each : ∀ i, i < m → ∃ q : Lab, V0 i = .string q.1 ∧ V1 i = .string q.2 ∧ q.1.size ≤ maxLen ∧ q.2.size ≤ maxLen := fun i him => by
      obtain ⟨_, _, g0, g1⟩ := hi i him
      obtain ⟨z0, e0, w0⟩ := text_of_trod Try.underlying9 g0
      obtain ⟨z1, e1, w1⟩ := text_of_trod Try.underlying9 g1
      exact ⟨(z0, z1), e0, e1, w0, w1⟩
    obtain ⟨q, hq⟩ := choose_lt each
    refine ⟨some a, len, cap, q, (List.cons.inj hcs).1, Nat.le_trans hl hm, fun i hin => ⟨(hq i (by omega)).2.2.1, (hq i (by omega)).2.2.2⟩, fun hn => ⟨a, rfl, ?_, fun i hin => ?_⟩⟩
    · have := block_lt_of_cell (hi 0 (by omega)).1
      rwa [addr_block] at this
    · obtain ⟨g0, g1, _, _⟩ := hi i (by omega)
      obtain ⟨q0, q1, q2, q3⟩ := hq i (by omega)
      rw [q0] at g0; rw [q1] at g1
      exact ⟨g0, g1⟩
/-- one row of labels -/
structure LabS where
  A : Option Addr
  n : Nat
  c : Nat
  f : Nat → Lab
end
end Go.Proofs.Ytidfanmfibbiiaa
