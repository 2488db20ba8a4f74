/-
  Entries that came in.
-/
import Derived.Test.YtliobahnekohmaaGreatIwA
import Derived.Test.YtliobahnekohmaaGreatNumO
import Derived.Deep.Slices
import Derived.OpenShut
import Derived.ChangeOld
namespace Go.Proofs.YtliobahnekohmaaGreat
open Go.RowKit
open Go.ChangeShapes Go.WideShapes Go.Deep
section
variable {H : Type} {enc : TypeId × Value → H} {w : World} {spare : Nat → Bool} {held : Bool}
set_option maxRecDepth 100000 in
theorem labs_of {fuel : Nat} {v : Value} {x : DataW H × List MemPlace} (h : DataW.trod enc Tryz.prog w 0 spare held fuel 57 [v] = some x) :
    ∃ (A : Option Addr) (l : List Lab) (c : Nat), v = .slice A l.length c ∧ l.length ≤ maxLen ∧ (A = none → l.length = 0 ∧ c = 0) ∧ LabRow w A l.length (La.at_ l) := by
  rcases open_slice_pairs Tryz.underlying57 Tryz.underlying37 rfl rfl rfl rfl rfl h with ⟨hcs, _⟩ | ⟨a, len, cap, m, n', V0, V1, D0, D1, P0, P1, hcs, _, hl, hm, hmm, _, hi⟩
  · exact ⟨none, [], 0, (List.cons.inj hcs).1, by simp, fun _ => ⟨rfl, rfl⟩, fun h => absurd h (Nat.lt_irrefl 0)⟩
  · have hlm : len ≤ m := by rw [hmm]; split <;> omega
    have each : ∀ i, i < m → ∃ q : Lab, V0 i = .string q.1 ∧ V1 i = .string q.2 := fun i him => by
      obtain ⟨_, _, g0, g1⟩ := hi i him
      obtain ⟨z0, e0, w0⟩ := text_of_trod Tryz.underlying9 g0
      obtain ⟨z1, e1, w1⟩ := text_of_trod Tryz.underlying9 g1
      exact ⟨(z0, z1), e0, e1⟩
    have : Inhabited Lab := ⟨(ByteArray.empty, ByteArray.empty)⟩
    obtain ⟨q, hq⟩ := choose_lt each
    have hlen : ((List.range len).map q).length = len := by simp
    refine ⟨some a, (List.range len).map q, cap, by rw [hlen]; exact (List.cons.inj hcs).1, by rw [hlen]; exact Nat.le_trans hl hm, (fun h => by cases h), ?_⟩
    rw [hlen]
    intro hn
    refine ⟨a, rfl, ?_, fun i hin => ?_⟩
    · have := block_lt_of_cell (hi 0 (by omega)).1
      rwa [addr_block] at this
    · obtain ⟨g0, g1, _, _⟩ := hi i (by omega)
      obtain ⟨q0, q1⟩ := hq i (by omega)
      rw [q0] at g0; rw [q1] at g1
      have e : La.at_ ((List.range len).map q) i = q i := by unfold La.at_; simp [List.getD, hin]
      rw [e]
      exact ⟨g0, g1⟩
def EAt.cells (x : EAt) : List Value := [.slice x.A x.e.l.length x.c, .int .i64 x.e.last, .int .i64 x.e.off, .int .i64 x.e.len]
structure EAt.Came (w : World) (x : EAt) : Prop where
  labs : LabRow w x.A x.e.l.length (La.at_ x.e.l)
  words : EWords x.e
  len : x.e.l.length ≤ maxLen
set_option maxRecDepth 100000 in
set_option maxHeartbeats 1000000 in
theorem ent_of {fuel : Nat} {cs : List Value} {x : DataW H × List MemPlace} (h : DataW.trod enc Tryz.prog w 0 spare held fuel 59 cs = some x) :
    ∃ o : EAt, cs = o.cells ∧ o.Came w := by
  obtain ⟨xs, k, hk, hxy, hlen, hxl, hf⟩ := DataW.trod_struct Tryz.underlying59 h
  have hc : Tryz.prog.cellsOf 59 = 4 := by kernel_rfl
  rw [hc] at hlen
  match xs, hxl, cs, hlen with
  | [y0, y1, y2, y3], _, [v0, v1, v2, v3], _ =>
    have g0 := hf 0 _ rfl
    have g1 := hf 1 _ rfl
    have g2 := hf 2 _ rfl
    have g3 := hf 3 _ rfl
    have e0 : Tryz.prog.cellsOf 3 = 1 := by kernel_rfl
    have e1 : Tryz.prog.cellsOf 57 = 1 := by kernel_rfl
    have e3 : Tryz.prog.cellsOf 2 = 1 := by kernel_rfl
    simp [e0, e1, e3] at g0 g1 g2 g3
    obtain ⟨A1, l, c1, h1, q1, z1, r1⟩ := labs_of g0
    obtain ⟨a1, h11, _, w1⟩ := DataW.trod_int Tryz.underlying2 g1
    obtain ⟨a2, h2, _, w2⟩ := DataW.trod_int Tryz.underlying3 g2
    obtain ⟨a3, h3, _, w3⟩ := DataW.trod_int Tryz.underlying3 g3
    refine ⟨⟨⟨l, a1, a2, a3⟩, A1, c1⟩, ?_, ⟨r1, ⟨(i64_bd a1 w1).out, (i64_bd a2 w2).out, (i64_bd a3 w3).out⟩, q1⟩⟩
    rw [h1, show v1 = .int .i64 a1 from (List.cons.inj h11).1, show v2 = .int .i64 a2 from (List.cons.inj h2).1, show v3 = .int .i64 a3 from (List.cons.inj h3).1]
    rfl
theorem ex_cells (q : Nat → EAt) (i j : Nat) (hj : j < 4) : (q i).cells[j]? = some (ex q i j) := by
  rcases (show j = 0 ∨ j = 1 ∨ j = 2 ∨ j = 3 by omega) with rfl | rfl | rfl | rfl <;> rfl
set_option maxRecDepth 100000 in
set_option maxHeartbeats 1000000 in
theorem ents_of {fuel : Nat} {v : Value} {x : DataW H × List MemPlace} (hf : DataW.trod enc Tryz.prog w 0 spare held fuel 22 [v] = some x) :
    ∃ (A : Option Addr) (n c : Nat) (q : Nat → EAt), v = .slice A n c ∧ n ≤ maxLen ∧ (A = none → n = 0 ∧ c = 0) ∧ EntsRaw w A n q := by
  rcases open_slice Tryz.underlying22 hf with ⟨hcs, _⟩ | ⟨a, len, cap, m, n', D, Pl, hcs, _, hl, hm, hmm, _, hi⟩
  · obtain rfl := (List.cons.inj hcs).1
    exact ⟨none, 0, 0, fun _ => ⟨⟨[], 0, 0, 0⟩, none, 0⟩, rfl, by simp, fun _ => ⟨rfl, rfl⟩, fun h => absurd h (by omega), fun i hi => absurd hi (by omega), fun i hi => absurd hi (by omega), fun i hi => absurd hi (by omega)⟩
  · obtain rfl := (List.cons.inj hcs).1
    have hc4 : Tryz.prog.cellsOf 59 = 4 := by kernel_rfl
    have hlm : len ≤ m := by rw [hmm]; split <;> omega
    have each : ∀ i, i < m → ∃ q : EAt, (∀ j, j < 4 → w.cell? (a.add (i * 4 + j)) = q.cells[j]?) ∧ q.Came w := fun i him => by
      obtain ⟨cs', h1, h2⟩ := hi i him
      rw [hc4] at h1
      obtain ⟨_, hlen, hcell⟩ := World.cells?_some h1
      obtain ⟨q, rfl, s1⟩ := ent_of h2
      refine ⟨q, fun j hj => ?_, s1⟩
      have e := hcell j (by omega)
      rw [add_add] at e
      rw [e]
    have : Inhabited EAt := ⟨⟨⟨[], 0, 0, 0⟩, none, 0⟩⟩
    obtain ⟨q, hq⟩ := choose_lt each
    refine ⟨some a, len, cap, q, rfl, Nat.le_trans hl hm, (fun h => by cases h), ⟨fun hn => ⟨a, rfl, ?_, fun i hin j hj => ?_⟩, fun i hin => (hq i (by omega)).2.labs, fun i hin => (hq i (by omega)).2.words, fun i hin => (hq i (by omega)).2.len⟩⟩
    · have := block_lt_of_cell ((hq 0 (by omega)).1 0 (by omega))
      rwa [addr_block] at this
    · rw [(hq i (by omega)).1 j hj]
      exact ex_cells q i j hj
set_option maxRecDepth 100000 in
theorem open_ents {r : Reach} {b0 : Nat} {v : Value} {d : DataW H} {p : List MemPlace} (hv : Value.okWide Tryz.prog w r b0 22 v) (h : DataW.Trod enc Tryz.prog w 0 spare held 22 v d p) :
    ∃ (A : Option Addr) (n c : Nat) (q : Nat → EAt), v = .slice A n c ∧ n ≤ maxLen ∧ (A = none → n = 0 ∧ c = 0) ∧ EntsRaw w A n q := by
  obtain ⟨A, n, c, rfl⟩ := okWide_slice Tryz.underlying22 hv
  obtain ⟨fuel, hf⟩ := h
  exact ents_of hf
end
end Go.Proofs.YtliobahnekohmaaGreat
