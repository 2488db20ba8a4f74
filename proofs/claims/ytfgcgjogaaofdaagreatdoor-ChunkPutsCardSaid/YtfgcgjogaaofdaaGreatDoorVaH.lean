/-
  What Get of package value comes to.
-/
import Derived.Test.YtfgcgjogaaofdaaGreatDoorVaG
namespace Go.Proofs.YtfgcgjogaaofdaaGreatDoor
open Go.RowKit

theorem Far.four {w W : World} {p g : Nat} {x y z u : Value} (h : Far w W (OneSet p)) (hg : w.heap.size ≤ g) : Far w ((((W.setCell ⟨g, 0, none⟩ x).setCell ⟨g, 1, none⟩ y).setCell ⟨g, 2, none⟩ z).setCell ⟨g, 3, none⟩ u) (OneSet p) :=
  h.step (grown_four W g 0 1 2 3 x y z u) (fun r e => by cases e; exact .inr hg)
theorem RdAt.four {W : World} {p q g : Nat} {b : ByteArray} {x y z u : Value} (h : RdAt W p b q) (hne : p ≠ g) : RdAt ((((W.setCell ⟨g, 0, none⟩ x).setCell ⟨g, 1, none⟩ y).setCell ⟨g, 2, none⟩ z).setCell ⟨g, 3, none⟩ u) p b q :=
  ((grown_four W g 0 1 2 3 x y z u).block p h.lt (by simp; omega)).trans h
/-- what a Get comes to -/
def VGets (p : Nat) (b : ByteArray) (q : Nat) (s : Va.S) (w : World) (e : Ending) (w' : World) : Prop := Far w w' (OneSet p) ∧
      ((∃ t, s.got ((Bit.bits b).drop q) = some t ∧ e = .returned (.tuple #[(s.next t).val, .bool true]) ∧ RdAt w' p b (q + s.cost t)) ∨ (s.got ((Bit.bits b).drop q) = none ∧ e = .returned (.tuple #[s.val, .bool false]) ∧ RdAt w' p b q))
set_option maxRecDepth 100000 in
set_option maxHeartbeats 1000000 in
theorem vGet_any (p : Nat) (b : ByteArray) (hb : b.size ≤ 137438953472) (q : Nat) (hq : q ≤ 8 * b.size) (s : Va.S) (hok : s.ok) (hn : s.n < 2199023255552) (w : World) (hT : TabOk w) (hr : RdAt w p b q) :
    Calls Tryz.prog 79 #[.pointer (some ⟨p, 0, none⟩), s.val] w (VGets p b q s w) := by
  have hpl : p < w.heap.size := hr.lt
  have hp1 := hT.not_reader hr
  have hread := fun W (h : TabOk W) (h2 : RdAt W p b q) => vRead1_any p b hb q hq s hok W h h2
  have hnext := fun t ht W h => vnext_any s hok hn t ht W h
  have r0 : w.cell? ⟨p, 0, none⟩ = some (.string b) := cell_of_row _ _ 0 _ _ _ hr
  have r1 : w.cell? ⟨p, 1, none⟩ = some (.int .i64 q) := cell_of_row _ _ 1 _ _ _ hr
  have hb3 : Below w.heap.size w (((w.alloc (.cells #[.int .i64 s.n, .int .u64 s.v, .int .i64 s.l, .int .i64 s.t] 104)).alloc (.cells #[.int .i64 0, .int .u64 0, .int .i64 0, .int .i64 0] 104)).alloc (.cells #[.string b, .int .i64 q] 131)) :=
    (((Below.refl _ _).alloc (Nat.le_refl _) _).alloc (by simp) _).alloc (by simp; omega) _
  obtain ⟨t0, t1, t2, tz, _, _⟩ := three_heap w (.cells #[.int .i64 s.n, .int .u64 s.v, .int .i64 s.l, .int .i64 s.t] 104) (.cells #[.int .i64 0, .int .u64 0, .int .i64 0, .int .i64 0] 104) (.cells #[.string b, .int .i64 q] 131)
  have hT3 := hT.later hb3
  have hr3 := hr.below hb3
  have hf3 := far_of_below hb3 (OneSet p)
  have HREAD := Lib.hid hread; have HNEXT := Lib.hid hnext; have HT3 := Lib.hid hT3; have HR3 := Lib.hid hr3; have HF3 := Lib.hid hf3
  have S0 : Hid (VStAt _ w.heap.size s) := Lib.hid t0
  have S1 : Hid (VStAt _ (w.heap.size + 1) ⟨0, 0, 0, 0⟩) := Lib.hid t1
  have S2 : Hid (RdAt _ (w.heap.size + 2) b q) := Lib.hid t2
  have HOK := Lib.hid hok
  clear hread hnext hT3 hr3 hf3 hb3 t0 t1 t2 hT hok
  have hval : ∀ s : Va.S, s.val = .agg #[.int .i64 s.n, .int .u64 s.v, .int .i64 s.l, .int .i64 s.t] := fun s => rfl
  rw [hval s]
  go_enter Tryz.func79, Tryz.ntmps79
  go_wp2_with fail
  have hread := HREAD.out _ HT3.out HR3.out
  rw [hval] at hread
  refine hread.mono ?_
  clear hread HREAD
  rintro e w4 ⟨t, o, rfl, hf4, ⟨rfl, hg, hr4⟩ | ⟨rfl, hg, q2, hq2, hr4⟩⟩
  · have HR4 := Lib.hid hr4; have HF4 := Lib.hid (HF3.out.more hf4); have HG := Lib.hid hg
    have HS1 := Lib.hid (S1.out.far hf4 (by omega))
    have HT4 : Hid (TabOk w4) := Lib.hid (HT3.out.far hf4 hp1)
    have s0 := S0.out.far hf4 (by omega)
    obtain ⟨a0, a1, a2, a3⟩ := s0.cells
    have hz := hf4.size
    rw [tz] at hz
    have ht := (Va.S.got_some HOK.out hg).2.2
    have hcall := HNEXT.out t ht w4 HT4.out
    rw [hval s] at hcall
    have HCALL := Lib.hid hcall
    clear s0 hr4 hf4 hg S0 S1 S2 HR3 HF3 HT3 hcall HNEXT
    go_wp2_with fail
    refine HCALL.out.mono ?_; rintro e w5 ⟨rfl, hb5⟩
    have HS5 := Lib.hid (HS1.out.later hb5); have HR5 := Lib.hid (HR4.out.below hb5); have HF5 := Lib.hid (HF4.out.more (far_of_below hb5 _))
    clear hb5
    obtain ⟨c0, c1, c2, c3⟩ := HS5.out.cells
    obtain ⟨f0, f1, f2, f3⟩ := HS5.out.free
    generalize hs2 : s.next t = s2 at *
    have HS2 := Lib.hid hs2; clear hs2
    try rw [hval s2]
    go_wp2_with fail
    refine bodyPost_ret (v := .tuple #[.agg #[.int .i64 s2.n, .int .u64 s2.v, .int .i64 s2.l, .int .i64 s2.t], .bool true]) (by simp [results, go_sem, c0, c1, c2, c3]) rfl ?_
    exact ⟨HF5.out.four (by omega), .inl ⟨t, HG.out, by rw [HS2.out]; rfl, HR5.out.four (by omega)⟩⟩
  · have HR4 := Lib.hid hr4; have HF4 := Lib.hid (HF3.out.more hf4); have HG := Lib.hid hg
    have s0 := S0.out.far hf4 (by omega)
    have s1 := S1.out.far hf4 (by omega)
    have s2 : RdAt w4 (w.heap.size + 2) b q := S2.out.far hf4 (fun e => by have : w.heap.size + 2 = p := e; omega)
    have HS0 := Lib.hid s0; have HS1 := Lib.hid s1
    have x0 : w4.cell? ⟨w.heap.size + 2, 0, none⟩ = some (.string b) := cell_of_row _ _ 0 _ _ _ s2
    have x1 : w4.cell? ⟨w.heap.size + 2, 1, none⟩ = some (.int .i64 q) := cell_of_row _ _ 1 _ _ _ s2
    have y0 : w4.cell? ⟨p, 0, none⟩ = some (.string b) := cell_of_row _ _ 0 _ _ _ hr4
    have y1 : w4.cell? ⟨p, 1, none⟩ = some (.int .i64 q2) := cell_of_row _ _ 1 _ _ _ hr4
    have z0 : w4.frozen? ⟨p, 0, none⟩ = false := frozen_of_row _ _ _ _ _ hr4
    have z1 : w4.frozen? ⟨p, 1, none⟩ = false := frozen_of_row _ _ _ _ _ hr4
    have hz := hf4.size
    rw [tz] at hz
    clear s0 s1 s2 hr4 hf4 hg S0 S1 S2 HR3 HF3 HT3
    go_upto_region 5 with fail
    obtain ⟨hr5, hf5⟩ := HR4.out.back b q
    have s0 := HS0.out.far hf5 (by omega)
    have s1 := HS1.out.far hf5 (by omega)
    have HF5 := Lib.hid (HF4.out.more hf5); have HR5 : Hid (RdAt _ p b q) := Lib.hid hr5
    generalize (w4.setCell ⟨p, 0, none⟩ (.string b)).setCell ⟨p, 1, none⟩ (.int .i64 q) = w5 at *
    obtain ⟨a0, a1, a2, a3⟩ := s0.cells
    obtain ⟨c0, c1, c2, c3⟩ := s1.cells
    obtain ⟨f0, f1, f2, f3⟩ := s1.free
    clear s0 s1 hr5 hf5 x0 x1 y0 y1 z0 z1 HS0 HS1
    go_wp2_with fail
    refine bodyPost_ret (v := .tuple #[.agg #[.int .i64 s.n, .int .u64 s.v, .int .i64 s.l, .int .i64 s.t], .bool false]) (by simp [results, go_sem, c0, c1, c2, c3]) rfl ?_
    exact ⟨HF5.out.four (by omega), .inr ⟨HG.out, rfl, HR5.out.four (by omega)⟩⟩
end Go.Proofs.YtfgcgjogaaofdaaGreatDoor
