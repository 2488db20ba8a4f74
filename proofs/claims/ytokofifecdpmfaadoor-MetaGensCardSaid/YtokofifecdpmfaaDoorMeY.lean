/-
  MetaGens: the walk of the law.
-/
import Derived.Test.YtokofifecdpmfaaDoorMeX
namespace Go.Proofs.YtokofifecdpmfaaDoor
open Go.RowKit
namespace Me
def withGen (m : M) (g : Int) : M := { m with gen := g }
theorem valid_withGen (m : M) (g : Int) (h : valid m = true) (h1 : 1 ≤ g) (h2 : g ≤ 3) : valid (withGen m g) = true := by
  obtain ⟨⟨o1, o2, o3, o4, o5⟩, hg⟩ := (valid_iff m).1 h
  exact (valid_iff _).2 ⟨⟨h1, h2, o3, o4, o5⟩, hg⟩
theorem invalid_withGen (m : M) (g : Int) (h : ¬ (1 ≤ g ∧ g ≤ 3)) : valid (withGen m g) = false := by
  cases hv : valid (withGen m g) with
  | false => rfl
  | true => exact absurd ⟨(valid_okay hv).1, (valid_okay hv).2.1⟩ h
theorem withGen_back (m : M) (g : Int) : withGen (withGen m g) m.gen = m := rfl
end Me

set_option maxRecDepth 100000 in
set_option maxHeartbeats 4000000 in
theorem metaGens_walk0 (w : World) (hE : Env w) (m : Me.M) (A : Option Addr) (c : Nat) (hA : Ints w A c m.bs) (gen : Int) :
    Calls Tryd.prog 5 #[.agg #[.int .i64 m.gen, .int .i64 m.next, .int .i64 m.wal, .slice A m.bs.length c], .int .i64 gen] w fun e w' => e = .returned (.bool true) ∧ Below w.heap.size w w' := by
  have hb1 : Below w.heap.size w (w.alloc (.cells #[.int .i64 m.gen, .int .i64 m.next, .int .i64 m.wal, .slice A m.bs.length c] 30)) := (Below.refl _ _).alloc (Nat.le_refl _) _
  have HM1 : Hid (MetaAt w.heap.size m A c (w.alloc (.cells #[.int .i64 m.gen, .int .i64 m.next, .int .i64 m.wal, .slice A m.bs.length c] 30))) := Lib.hid (heap_alloc_new _ _)
  have HB1 := Lib.hid hb1; have HE1 := Lib.hid (hE.later hb1); have HI1 := Lib.hid (hA.later hb1)
  clear hb1 hE hA
  generalize hw1 : w.alloc (.cells #[.int .i64 m.gen, .int .i64 m.next, .int .i64 m.wal, .slice A m.bs.length c] 30) = w1 at *
  have hwk := works_any w1 HE1.out
  have HWK := Lib.hid hwk; clear hwk
  by_cases hl : m.bs.length ≤ 600
  · have d1 : decide ((600 : Int) < (m.bs.length : Int)) = false := by simp; omega
    have hval := fun W h => Valid_any m A c (by omega) W h
    have HVAL := Lib.hid hval; clear hval
    cases hv : Me.valid m
    · rw [hv] at HVAL
      clear hv
      go_enter Tryd.func5, Tryd.ntmps5
      go_wp2_with fail
      refine HWK.out.mono ?_; rintro e w2 ⟨rfl, hb2⟩
      have HB2 := Lib.hid (below_step HB1.out hb2); have HM2 := Lib.hid (HM1.out.later hb2); have HI2 := Lib.hid (HI1.out.later hb2)
      clear hb2
      obtain ⟨c0, c1, c2, c3⟩ := HM2.out.cells
      go_wp2_with fail
      refine (HVAL.out _ HI2.out).mono ?_; rintro e w3 ⟨rfl, hb3⟩
      have HB3 := Lib.hid (below_step HB2.out hb3); clear hb3 c0 c1 c2 c3
      go_wp2_with fail
      go_ret
      exact ⟨rfl, HB3.out⟩
    · rw [hv] at HVAL
      have hput := fun W h => MPut_any (Me.withGen m gen) A c (by show m.bs.length ≤ 700; omega) W h
      have hput2 : ∀ W, Ints W A c m.bs → Calls Tryd.prog 13 #[.agg #[.int .i64 gen, .int .i64 m.next, .int .i64 m.wal, .slice A m.bs.length c]] W fun e w' => e = .returned (.tuple #[.string (Me.putB (Me.withGen m gen)), .int .i64 (Me.putE (Me.withGen m gen) : Nat)]) ∧ Below W.heap.size W w' := hput
      have hset : ∀ W : World, MetaAt W.heap.size m A c (W.alloc (.cells #[.int .i64 m.gen, .int .i64 m.next, .int .i64 m.wal, .slice A m.bs.length c] 30)) := fun W => heap_alloc_new _ _
      clear hput
      by_cases hg : 1 ≤ gen ∧ gen ≤ 3
      · have hvn := Me.valid_withGen m gen hv hg.1 hg.2
        have e1 : Me.putB (Me.withGen m gen) = Me.bytes (Me.withGen m gen) := by unfold Me.putB; rw [if_pos hvn]
        have e2 : Me.putE (Me.withGen m gen) = 0 := by unfold Me.putE; rw [if_pos hvn]
        rw [e1, e2] at hput2
        have hgb := MGet_any (Me.bytes (Me.withGen m gen)) (by have := Me.bytes_size _ (Me.valid_okay hvn).2.2.2.2; omega)
        rw [Me.got_bytes _ hvn] at hgb
        have hgb2 : ∀ W, Calls Tryd.prog 14 #[.string (Me.bytes (Me.withGen m gen))] W fun e w' => ∃ A c, e = .returned (.tuple #[.agg #[.int .i64 gen, .int .i64 m.next, .int .i64 m.wal, .slice A m.bs.length c], .int .i64 0]) ∧ Ints w' A c m.bs ∧ (∀ ad, A = some ad → W.heap.size ≤ ad.block) ∧ Below W.heap.size W w' := hgb
        have hsm := fun W A c B d h1 h2 => Same_any m m A B c d (by omega) W h1 h2
        rw [(Me.same_iff m m).2 rfl] at hsm
        have g1 : decide (gen < 1) = false := by simp; omega
        have g2 : decide (3 < gen) = false := by simp; omega
        have HPUT := Lib.hid hput2; have HGB := Lib.hid hgb2; have HSM := Lib.hid hsm
        clear hput2 hgb hgb2 hsm e1 e2 hvn hv hg
        generalize Me.bytes (Me.withGen m gen) = sb at *
        go_enter Tryd.func5, Tryd.ntmps5
        go_wp2_with fail
        refine HWK.out.mono ?_; rintro e w2 ⟨rfl, hb2⟩
        have HB2 := Lib.hid (below_step HB1.out hb2); have HM2 := Lib.hid (HM1.out.later hb2); have HI2 := Lib.hid (HI1.out.later hb2)
        clear hb2
        obtain ⟨c0, c1, c2, c3⟩ := HM2.out.cells
        go_wp2_with fail
        refine (HVAL.out _ HI2.out).mono ?_; rintro e w3 ⟨rfl, hb3⟩
        have HB3 := Lib.hid (below_step HB2.out hb3); have HM3 := Lib.hid (HM2.out.later hb3); have HI3 := Lib.hid (HI2.out.later hb3)
        clear hb3 c0 c1 c2 c3
        obtain ⟨c0, c1, c2, c3⟩ := HM3.out.cells
        have hlt3 := HM3.out.lt
        have hal : Below w3.heap.size w3 (w3.alloc (.cells #[.int .i64 m.gen, .int .i64 m.next, .int .i64 m.wal, .slice A m.bs.length c] 30)) := (Below.refl _ _).alloc (Nat.le_refl _) _
        have HN4 := Lib.hid (hset w3); have HAL := Lib.hid hal
        clear hset hal
        go_upto_region 7 with fail
        generalize w3.alloc (.cells #[.int .i64 m.gen, .int .i64 m.next, .int .i64 m.wal, .slice A m.bs.length c] 30) = w4 at *
        have hs5 := heap_setCell_same w4 w3.heap.size 0 _ _ (.int .i64 gen) HN4.out
        have hb5 : Below w3.heap.size w3 (w4.setCell ⟨w3.heap.size, 0, none⟩ (.int .i64 gen)) := HAL.out.grown (grown_setCell w4 w3.heap.size 0 _) HAL.out.size (fun r e => by cases e; exact Nat.le_refl _)
        have x0 : w4.cell? ⟨w3.heap.size, 0, none⟩ = some (.int .i64 m.gen) := HN4.out.cells.1
        have f0 : w4.frozen? ⟨w3.heap.size, 0, none⟩ = false := frozen_of_row _ _ _ _ _ HN4.out
        have HN5 : Hid (RowIs (w4.setCell ⟨w3.heap.size, 0, none⟩ (.int .i64 gen)) w3.heap.size (.cells #[.int .i64 gen, .int .i64 m.next, .int .i64 m.wal, .slice A m.bs.length c] 30)) := Lib.hid hs5
        have HB5 := Lib.hid (below_step HB3.out hb5); have HM5 := Lib.hid (HM3.out.later hb5); have HI5 := Lib.hid (HI3.out.later hb5)
        clear hs5 hb5 c0 c1 c2 c3 HAL HN4
        go_upto_region 8 with fail
        generalize w4.setCell ⟨w3.heap.size, 0, none⟩ (.int .i64 gen) = w5 at *
        clear x0 f0
        obtain ⟨⟨e0, e1, e2, e3⟩, -⟩ := meta_cells HN5.out
        go_wp2_with fail
        refine (HPUT.out _ HI5.out).mono ?_; rintro e w6 ⟨rfl, hb6⟩
        have HB6 := Lib.hid (below_step HB5.out hb6); have HM6 := Lib.hid (HM5.out.later hb6); have HI6 := Lib.hid (HI5.out.later hb6)
        clear hb6 e0 e1 e2 e3
        go_wp2_with fail
        refine (HGB.out _).mono ?_; rintro e w7 ⟨B, d, rfl, hJ7, -, hb7⟩
        have hal : Below w7.heap.size w7 (w7.alloc (.cells #[.int .i64 gen, .int .i64 m.next, .int .i64 m.wal, .slice B m.bs.length d] 30)) := (Below.refl _ _).alloc (Nat.le_refl _) _
        have HX8 : Hid (RowIs (w7.alloc (.cells #[.int .i64 gen, .int .i64 m.next, .int .i64 m.wal, .slice B m.bs.length d] 30)) w7.heap.size (.cells #[.int .i64 gen, .int .i64 m.next, .int .i64 m.wal, .slice B m.bs.length d] 30)) := Lib.hid (heap_alloc_new _ _)
        have HB7 := Lib.hid (below_step HB6.out hb7); have HM7 := Lib.hid (HM6.out.later hb7); have HI7 := Lib.hid (HI6.out.later hb7); have HJ7 := Lib.hid hJ7; have HAL := Lib.hid hal
        have HM8 := Lib.hid (HM7.out.later hal)
        clear hb7 hal hJ7
        go_upto_region 12 with fail
        generalize w7.alloc (.cells #[.int .i64 gen, .int .i64 m.next, .int .i64 m.wal, .slice B m.bs.length d] 30) = w8 at *
        have hs9 := heap_setCell_same w8 w7.heap.size 0 _ _ (.int .i64 m.gen) HX8.out
        have hb9 : Below w7.heap.size w7 (w8.setCell ⟨w7.heap.size, 0, none⟩ (.int .i64 m.gen)) := HAL.out.grown (grown_setCell w8 w7.heap.size 0 _) HAL.out.size (fun r e => by cases e; exact Nat.le_refl _)
        obtain ⟨⟨x0, -, -, -⟩, ⟨f0, -, -, -⟩⟩ := meta_cells HX8.out
        obtain ⟨c0, -, -, -⟩ := HM8.out.cells
        have HX9 : Hid (RowIs (w8.setCell ⟨w7.heap.size, 0, none⟩ (.int .i64 m.gen)) w7.heap.size (.cells #[.int .i64 m.gen, .int .i64 m.next, .int .i64 m.wal, .slice B m.bs.length d] 30)) := Lib.hid hs9
        have HB9 := Lib.hid (below_step HB7.out hb9); have HM9 := Lib.hid (HM7.out.later hb9); have HI9 := Lib.hid (HI7.out.later hb9); have HJ9 := Lib.hid (HJ7.out.later hb9)
        clear hs9 hb9
        go_upto_region 13 with fail
        generalize w8.setCell ⟨w7.heap.size, 0, none⟩ (.int .i64 m.gen) = w9 at *
        clear x0 f0 c0
        obtain ⟨⟨e0, e1, e2, e3⟩, -⟩ := meta_cells HX9.out
        obtain ⟨c0, c1, c2, c3⟩ := HM9.out.cells
        go_wp2_with fail
        refine (HSM.out _ _ _ _ _ HJ9.out HI9.out).mono ?_; rintro e wa ⟨rfl, hba⟩
        have HBa := Lib.hid (below_step HB9.out hba)
        clear hba c0 c1 c2 c3 e0 e1 e2 e3
        go_wp2_with fail
        go_ret
        exact ⟨rfl, HBa.out⟩
      · have hvn := Me.invalid_withGen m gen hg
        have e1 : Me.putB (Me.withGen m gen) = ByteArray.empty := by unfold Me.putB; rw [hvn]; rfl
        have e2 : Me.putE (Me.withGen m gen) = 1 := by unfold Me.putE; rw [hvn]; rfl
        rw [e1, e2] at hput2
        have hgd : decide (gen < 1) = true ∨ (decide (gen < 1) = false ∧ decide (3 < gen) = true) := by
          simp only [decide_eq_true_eq, decide_eq_false_iff_not]; omega
        have hemp := empty_is
        have HPUT := Lib.hid hput2
        clear hput2 e1 e2 hvn hv hg
        rcases hgd with g1 | ⟨g1, g2⟩
        all_goals
          go_enter Tryd.func5, Tryd.ntmps5
          go_wp2_with fail
          refine HWK.out.mono ?_; rintro e w2 ⟨rfl, hb2⟩
          have HB2 := Lib.hid (below_step HB1.out hb2); have HM2 := Lib.hid (HM1.out.later hb2); have HI2 := Lib.hid (HI1.out.later hb2)
          clear hb2
          obtain ⟨c0, c1, c2, c3⟩ := HM2.out.cells
          go_wp2_with fail
          refine (HVAL.out _ HI2.out).mono ?_; rintro e w3 ⟨rfl, hb3⟩
          have HB3 := Lib.hid (below_step HB2.out hb3); have HM3 := Lib.hid (HM2.out.later hb3); have HI3 := Lib.hid (HI2.out.later hb3)
          clear hb3 c0 c1 c2 c3
          obtain ⟨c0, c1, c2, c3⟩ := HM3.out.cells
          have hlt3 := HM3.out.lt
          have hal : Below w3.heap.size w3 (w3.alloc (.cells #[.int .i64 m.gen, .int .i64 m.next, .int .i64 m.wal, .slice A m.bs.length c] 30)) := (Below.refl _ _).alloc (Nat.le_refl _) _
          have HN4 := Lib.hid (hset w3); have HAL := Lib.hid hal
          clear hset hal
          go_upto_region 7 with fail
          generalize w3.alloc (.cells #[.int .i64 m.gen, .int .i64 m.next, .int .i64 m.wal, .slice A m.bs.length c] 30) = w4 at *
          have hs5 := heap_setCell_same w4 w3.heap.size 0 _ _ (.int .i64 gen) HN4.out
          have hb5 : Below w3.heap.size w3 (w4.setCell ⟨w3.heap.size, 0, none⟩ (.int .i64 gen)) := HAL.out.grown (grown_setCell w4 w3.heap.size 0 _) HAL.out.size (fun r e => by cases e; exact Nat.le_refl _)
          have x0 : w4.cell? ⟨w3.heap.size, 0, none⟩ = some (.int .i64 m.gen) := HN4.out.cells.1
          have f0 : w4.frozen? ⟨w3.heap.size, 0, none⟩ = false := frozen_of_row _ _ _ _ _ HN4.out
          have HN5 : Hid (RowIs (w4.setCell ⟨w3.heap.size, 0, none⟩ (.int .i64 gen)) w3.heap.size (.cells #[.int .i64 gen, .int .i64 m.next, .int .i64 m.wal, .slice A m.bs.length c] 30)) := Lib.hid hs5
          have HB5 := Lib.hid (below_step HB3.out hb5); have HI5 := Lib.hid (HI3.out.later hb5)
          clear hs5 hb5 c0 c1 c2 c3 HAL HN4
          go_upto_region 8 with fail
          generalize w4.setCell ⟨w3.heap.size, 0, none⟩ (.int .i64 gen) = w5 at *
          clear x0 f0
          obtain ⟨⟨e0, e1, e2, e3⟩, -⟩ := meta_cells HN5.out
          go_wp2_with fail
          refine (HPUT.out _ HI5.out).mono ?_; rintro e w6 ⟨rfl, hb6⟩
          have HB6 := Lib.hid (below_step HB5.out hb6)
          clear hb6 e0 e1 e2 e3
          go_wp2_with fail
          go_ret
          exact ⟨rfl, HB6.out⟩
  · have d1 : decide ((600 : Int) < (m.bs.length : Int)) = true := by simp; omega
    clear hl
    go_enter Tryd.func5, Tryd.ntmps5
    go_wp2_with fail
    refine HWK.out.mono ?_; rintro e w2 ⟨rfl, hb2⟩
    have HB2 := Lib.hid (below_step HB1.out hb2); have HM2 := Lib.hid (HM1.out.later hb2)
    clear hb2
    obtain ⟨c0, c1, c2, c3⟩ := HM2.out.cells
    go_wp2_with fail
    go_ret
    exact ⟨rfl, HB2.out⟩
set_option maxRecDepth 100000 in
theorem metaBack_walk {H : Type} {enc : TypeId × Value → H} {r : Reach} {b0 : Nat} {v : Value} {d : DataW H} {p : List MemPlace} (w : World) (hE : Env w)
    (hv : Value.okWide Tryd.prog w r b0 30 v) (h : DataW.Trod enc Tryd.prog w 0 (fun _ => true) true 30 v d p) (s : ByteArray) (_hs : s.size ≤ maxLen) :
    Calls Tryd.prog 4 #[v, .string s] w fun e w' => e = .returned (.bool true) ∧ Below w.heap.size w w' := by
  obtain ⟨m, A, c, rfl, _, hI⟩ := open_meta hv h
  exact metaBack_walk0 w hE m A c hI s
set_option maxRecDepth 100000 in
theorem metaGens_walk {H : Type} {enc : TypeId × Value → H} {r : Reach} {b0 : Nat} {v : Value} {d : DataW H} {p : List MemPlace} (w : World) (hE : Env w)
    (hv : Value.okWide Tryd.prog w r b0 30 v) (h : DataW.Trod enc Tryd.prog w 0 (fun _ => true) true 30 v d p) (gen : Int) (_hg : (Lit.int .i64 gen).wf = true) :
    Calls Tryd.prog 5 #[v, .int .i64 gen] w fun e w' => e = .returned (.bool true) ∧ Below w.heap.size w w' := by
  obtain ⟨m, A, c, rfl, _, hI⟩ := open_meta hv h
  exact metaGens_walk0 w hE m A c hI gen
end Go.Proofs.YtokofifecdpmfaaDoor
