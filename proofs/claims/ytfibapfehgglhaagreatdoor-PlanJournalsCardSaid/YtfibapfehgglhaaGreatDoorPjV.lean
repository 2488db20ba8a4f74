import Derived.Test.YtfibapfehgglhaaGreatDoorPjS
import Derived.Lib.SliceRun
/-
  A new store's meta, turned: the walks.
-/
namespace Go.Proofs.YtfibapfehgglhaaGreatDoor
open Go.RowKit
open Pj
theorem ta_yes3 (v : Value) (w : World) : (Instr.typeAssert (.iface 125 v) 87 125 true).run Tryz.prog w = .ok (.tuple #[v, .bool true]) w := by kernel_rfl
theorem ta_no4 (v : Value) (w : World) : (Instr.typeAssert (.iface 129 v) 87 122 true).run Tryz.prog w = .ok (.tuple #[.agg #[.string ByteArray.empty, .string ByteArray.empty], .bool false]) w := by kernel_rfl
theorem ta_no5 (v : Value) (w : World) : (Instr.typeAssert (.iface 129 v) 87 124 true).run Tryz.prog w = .ok (.tuple #[.agg #[.string ByteArray.empty, .string ByteArray.empty], .bool false]) w := by kernel_rfl
theorem ta_no6 (v : Value) (w : World) : (Instr.typeAssert (.iface 129 v) 87 125 true).run Tryz.prog w = .ok (.tuple #[.agg #[.string ByteArray.empty, .string ByteArray.empty], .bool false]) w := by kernel_rfl
set_option maxRecDepth 100000 in
theorem isGen_any (g : Int) (hg : 1 ≤ g ∧ g ≤ 3) (w : World) : Calls Tryz.prog 23 #[.int .i64 g] w fun e w' => e = .returned (.bool true) ∧ w' = w := by
  have d1 : decide (g ≥ 1) = true := decide_eq_true hg.1
  have d2 : decide (1 ≤ g) = true := decide_eq_true hg.1
  have d3 : decide (g ≤ 3) = true := decide_eq_true hg.2
  have HG := Lib.hid hg
  clear hg
  go_enter Tryz.func23, Tryz.ntmps23
  go_wp2_with fail
  go_ret
  exact ⟨rfl, rfl⟩
set_option maxRecDepth 100000 in
set_option maxHeartbeats 2000000 in
theorem turnO_any (n s : ByteArray) (g : Int) (w : World) : Calls Tryz.prog 27 #[.iface 129 (.agg #[.string n, .string s]), .int .i64 g] w fun e w' => e = .returned (.tuple #[.string ByteArray.empty, .int .i64 11]) ∧ Below w.heap.size w w' := by
  have t1 := fun U => ta_no4 (.agg #[.string n, .string s]) U; have t2 := fun U => ta_no5 (.agg #[.string n, .string s]) U; have t3 := fun U => ta_no6 (.agg #[.string n, .string s]) U
  go_enter Tryz.func27, Tryz.ntmps27
  go_wp2_with fail
  go_ret2
  exact ⟨rfl, Below.refl _ _⟩
set_option maxRecDepth 100000 in
set_option maxHeartbeats 4000000 in
theorem turnM_any (n : ByteArray) (g g2 : Int) (hg : 1 ≤ g ∧ g ≤ 3) (hg2 : 1 ≤ g2 ∧ g2 ≤ 3) (w : World) : Calls Tryz.prog 27 #[.iface 125 (.agg #[.string n, .string (mB g)]), .int .i64 g2] w fun e w' => e = .returned (.tuple #[.string (mB g2), .int .i64 0]) ∧ Below w.heap.size w w' := by
  have HMG := Lib.hid (fun U => MGet_any (mB g) (Nat.le_trans (mB_size g) (by decide)) U)
  have hgot : Me.got (mB g) = (m0 g, 0) := Me.got_bytes (m0 g) (m0_valid g hg)
  rw [hgot] at HMG
  have HMP := Lib.hid (fun A c U (hU : Ints U A c []) => MPut_any (m0 g2) A c (Nat.zero_le _) U hU)
  have e1 : Me.putB (m0 g2) = mB g2 := by unfold Me.putB; rw [if_pos (m0_valid g2 hg2)]; rfl
  have e2 : Me.putE (m0 g2) = 0 := by unfold Me.putE; rw [if_pos (m0_valid g2 hg2)]
  rw [e1, e2] at HMP
  generalize mB g = s at *
  generalize mB g2 = s2 at *
  clear hgot e1 e2 hg hg2
  have t1 := fun U => ta_no (.agg #[.string n, .string s]) U; have t2 := fun U => ta_no2 (.agg #[.string n, .string s]) U; have t3 := fun U => ta_yes3 (.agg #[.string n, .string s]) U
  obtain ⟨w1, hw1⟩ : ∃ w1, w1 = w.alloc (.cells #[.string n, .string s] 125) := ⟨_, rfl⟩
  obtain ⟨b1, hb1⟩ : ∃ b1, b1 = w.heap.size := ⟨_, rfl⟩
  have hs1 : Below w.heap.size w w1 := by rw [hw1]; exact (Below.refl _ _).alloc (Nat.le_refl _) _
  have hx1 : w1.heap[b1]? = some (.cells #[.string n, .string s] 125 (0, 0)) := by rw [hw1, hb1]; exact heap_alloc_new w _
  have HB1 := Lib.hid hs1
  have y1 := cell_of_row _ _ 1 _ _ _ hx1
  simp only [List.getElem?_toArray, List.getElem?_cons_zero, List.getElem?_cons_succ] at y1
  have HW := Lib.hid (And.intro hw1 hb1)
  clear hs1 hx1 hw1 hb1
  go_enter Tryz.func27, Tryz.ntmps27
  go_upto_region 10 with fail
  obtain ⟨hw1, hb1⟩ := HW.out
  rw [← hw1, ← hb1]
  clear hw1 hb1 HW t1 t2 t3
  go_wp2_with fail
  refine (HMG.out w1).mono ?_; rintro e w2 ⟨A, c, rfl, hi, -, hb2⟩
  have hval : (Me.M.val (m0 g) A c) = .agg #[.int .i64 g, .int .i64 1, .int .i64 0, .slice A 0 c] := rfl
  rw [hval]
  clear hval y1 HMG
  have HB2 := Lib.hid (below_step HB1.out hb2)
  obtain ⟨w3, hw3⟩ : ∃ w3, w3 = w2.alloc (.cells #[.int .i64 g, .int .i64 1, .int .i64 0, .slice A 0 c] 54) := ⟨_, rfl⟩
  obtain ⟨b3, hb3⟩ : ∃ b3, b3 = w2.heap.size := ⟨_, rfl⟩
  have hs3 : Below w2.heap.size w2 w3 := by rw [hw3]; exact (Below.refl _ _).alloc (Nat.le_refl _) _
  have hx3 : w3.heap[b3]? = some (.cells #[.int .i64 g, .int .i64 1, .int .i64 0, .slice A 0 c] 54 (0, 0)) := by rw [hw3, hb3]; exact heap_alloc_new w2 _
  have hle : w2.heap.size ≤ b3 := by rw [hb3]; exact Nat.le_refl _
  have hw3' := hw3
  have hx4 := heap_setCell_same w3 b3 0 _ _ (.int .i64 g2) hx3
  obtain ⟨w4, hw4⟩ : ∃ w4, w4 = w3.setCell ⟨b3, 0, none⟩ (.int .i64 g2) := ⟨_, rfl⟩
  rw [← hw4] at hx4
  have hbe : Below w2.heap.size w2 w4 := by rw [hw4]; exact hs3.grown (grown_setCell w3 b3 0 _) hs3.size (fun r e => by obtain rfl : b3 = r := Option.some.inj e; exact hle)
  have HB4 := Lib.hid (below_step HB2.out hbe)
  have HI := Lib.hid (Ints.later hi hbe)
  have y0 := cell_of_row _ _ 0 _ _ _ hx3; have f0 := frozen_of_row _ _ 0 _ _ hx3
  have z0 := cell_of_row _ _ 0 _ _ _ hx4; have z1 := cell_of_row _ _ 1 _ _ _ hx4; have z2 := cell_of_row _ _ 2 _ _ _ hx4; have z3 := cell_of_row _ _ 3 _ _ _ hx4
  simp only [List.setIfInBounds_toArray, List.set_cons_zero, List.getElem?_toArray, List.getElem?_cons_zero, List.getElem?_cons_succ] at y0 z0 z1 z2 z3
  have HW := Lib.hid (And.intro hw3 (And.intro hb3 hw4))
  clear hs3 hx3 hw3 hw3' hb3 hle hx4 hw4 hbe hb2 hi
  go_upto_region 11 with fail
  obtain ⟨hw3, hb3, hw4⟩ := HW.out
  rw [← hw3, ← hb3]
  have HW4 := Lib.hid hw4
  clear hw3 hb3 HW hw4
  go_upto_region 14 with fail
  have hw4 := HW4.out
  rw [← hw4]
  clear hw4 HW4
  go_wp2_with fail
  refine (HMP.out A c w4 HI.out).mono ?_; rintro e w5 ⟨rfl, hb5⟩
  have HB5 := Lib.hid (below_step HB4.out hb5)
  clear hb5 HMP
  go_wp2_with fail
  go_ret2
  exact ⟨rfl, HB5.out⟩
set_option maxRecDepth 100000 in
set_option maxHeartbeats 2000000 in
theorem TurnM_any (g g2 : Int) (hg : 1 ≤ g ∧ g ≤ 3) (hg2 : 1 ≤ g2 ∧ g2 ≤ 3) (w : World) (hE : Env w) : Calls Tryz.prog 11 #[.string metaN, .string (mB g), .int .i64 g2] w fun e w' => e = .returned (.tuple #[.string (mB g2), .int .i64 0]) ∧ Below w.heap.size w w' := by
  have HI := Lib.hid (isGen_any g2 hg2 w)
  have HF := Lib.hid (fileM_any (mB g) w hE)
  unfold FileOf at HF
  have HT := Lib.hid (fun n U => turnM_any n g g2 hg hg2 U)
  generalize metaN = n at *
  generalize mB g = s at *
  generalize mB g2 = s2 at *
  clear hg hg2 hE
  go_enter Tryz.func11, Tryz.ntmps11
  go_wp2_with fail
  refine HI.out.mono ?_; rintro e w1 ⟨rfl, rfl⟩
  go_wp2_with fail
  refine HF.out.mono ?_; rintro e w2 ⟨rfl, hb2⟩
  have HB2 := Lib.hid hb2
  clear hb2 HF
  go_wp2_with fail
  refine (HT.out n w2).mono ?_; rintro e w3 ⟨rfl, hb3⟩
  have HB3 := Lib.hid (below_step HB2.out hb3)
  clear hb3 HT
  go_wp2_with fail
  go_ret2
  exact ⟨rfl, HB3.out⟩
set_option maxRecDepth 100000 in
set_option maxHeartbeats 2000000 in
theorem TurnO_any (s : ByteArray) (g2 : Int) (hg2 : 1 ≤ g2 ∧ g2 ≤ 3) (w : World) (hE : Env w) : Calls Tryz.prog 11 #[.string otherN, .string s, .int .i64 g2] w fun e w' => e = .returned (.tuple #[.string ByteArray.empty, .int .i64 11]) ∧ Below w.heap.size w w' := by
  have HI := Lib.hid (isGen_any g2 hg2 w)
  have HF := Lib.hid (fileO_any s w hE)
  unfold FileOf at HF
  have HT := Lib.hid (fun n U => turnO_any n s g2 U)
  generalize otherN = n at *
  clear hg2 hE
  go_enter Tryz.func11, Tryz.ntmps11
  go_wp2_with fail
  refine HI.out.mono ?_; rintro e w1 ⟨rfl, rfl⟩
  go_wp2_with fail
  refine HF.out.mono ?_; rintro e w2 ⟨rfl, hb2⟩
  have HB2 := Lib.hid hb2
  clear hb2 HF
  go_wp2_with fail
  refine (HT.out n w2).mono ?_; rintro e w3 ⟨rfl, hb3⟩
  have HB3 := Lib.hid (below_step HB2.out hb3)
  clear hb3 HT
  go_wp2_with fail
  go_ret2
  exact ⟨rfl, HB3.out⟩
end Go.Proofs.YtfibapfehgglhaaGreatDoor
/-
  Names that are a new store's: the walks.
-/
namespace Go.Proofs.YtfibapfehgglhaaGreatDoor
open Go.RowKit
open Pj
set_option maxRecDepth 100000 in
theorem limit2_any (w : World) : Calls Tryz.prog 25 #[.int .i64 2] w fun e w' => e = .returned (.int .i64 24) ∧ w' = w := by
  go_enter Tryz.func25, Tryz.ntmps25
  go_wp2_with fail
  go_ret
  exact ⟨rfl, rfl⟩
set_option maxRecDepth 100000 in
theorem limit3_any (w : World) : Calls Tryz.prog 25 #[.int .i64 3] w fun e w' => e = .returned (.int .i64 48) ∧ w' = w := by
  go_enter Tryz.func25, Tryz.ntmps25
  go_wp2_with fail
  go_ret
  exact ⟨rfl, rfl⟩
set_option maxRecDepth 100000 in
set_option maxHeartbeats 2000000 in
theorem scan1_any (A : Option Addr) (c vb : Nat) (k : Nat) (hk : k < 2) (w : World) (hA : Row 1 (tx [walL, metaL]) w A 2) (hv : w.cell? ⟨vb, 0, none⟩ = some (.slice A 2 c)) :
    Calls Tryz.prog 58 #[.string (nmK k), .pointer (some ⟨vb, 0, none⟩)] w fun e w' => e = .returned (.bool true) ∧ w' = w := by
  have HC := Lib.hid (Contains_any A c [walL, metaL] (by decide) (nmK k) w hA)
  have hd : decide ((nmK k).data.toList ∈ [walL, metaL]) = true := by
    rcases (show k = 0 ∨ k = 1 by omega) with rfl | rfl <;> decide
  have hn := (nmK_ok k hk).2.2.1
  rw [hd] at HC
  generalize nmK k = nm at *
  clear hA hd hk
  go_enter Tryz.func58, Tryz.ntmps58
  go_wp2_with fail
  refine HC.out.mono ?_; rintro e w1 ⟨rfl, rfl⟩
  go_wp2_with fail
  go_ret
  exact ⟨rfl, rfl⟩
set_option maxRecDepth 100000 in
set_option maxHeartbeats 2000000 in
theorem indexF_any (A : Option Addr) (c vb : Nat) (ad : Addr) (d : Nat) (w : World) (hA : Row 1 (tx [walL, metaL]) w A 2) (hv : w.cell? ⟨vb, 0, none⟩ = some (.slice A 2 c)) (hs : Row 1 (tx [metaL, walL]) w (some ad) 2) :
    Calls Tryz.prog 99 #[.slice (some ad) 2 d, .func (.func 58) #[] #[.pointer (some ⟨vb, 0, none⟩)]] w fun e w' => e = .returned (.int .i64 0) ∧ w' = w := by
  have HS := Lib.hid (scan1_any A c vb 0 (by decide) w hA hv)
  obtain ⟨ad2, e2, x0, -⟩ := hs.at_ (Below.refl _ _) (show 0 < 2 by decide)
  obtain rfl : ad = ad2 := Option.some.inj e2
  have y0 : w.cell? (ad.add 0) = some (.string (nmK 0)) := by have := x0 (by decide); exact this
  have y1 : w.cell? ad = some (.string (nmK 0)) := y0
  have HY := Lib.hid (And.intro y0 y1)
  clear hs hA hv x0 e2
  generalize nmK 0 = nm at *
  go_enter Tryz.func99, Tryz.ntmps99
  go_wp2_with fail
  go_loopw [5, 8] (fun _ i wq => i = .int .i64 0 ∧ wq = w) (fun _ _ _ => 0)
  case atStart => exact ⟨rfl, rfl⟩
  case round =>
    obtain ⟨rfl, rfl⟩ := hrel
    go_wp2_with fail
    refine HS.out.mono ?_; rintro e w1 ⟨rfl, rfl⟩
    go_wp2_with fail
    go_ret
    exact ⟨rfl, rfl⟩
end Go.Proofs.YtfibapfehgglhaaGreatDoor
/-
  No name is left over: the walk of DeleteFunc.
-/
namespace Go.Proofs.YtfibapfehgglhaaGreatDoor
open Go.RowKit
open Pj
set_option maxRecDepth 100000 in
set_option maxHeartbeats 4000000 in
theorem deleteF_any (A : Option Addr) (c vb base : Nat) (B : Option Addr) (d : Nat) (w : World) (hA : Row 1 (tx [walL, metaL]) w A 2) (hv : w.cell? ⟨vb, 0, none⟩ = some (.slice A 2 c)) (hT : Txs w base (.slice B 2 d) [metaL, walL]) :
    Calls Tryz.prog 56 #[.slice B 2 d, .func (.func 58) #[] #[.pointer (some ⟨vb, 0, none⟩)]] w fun e w' => ∃ B2 d2, e = .returned (.slice B2 0 d2) ∧ Below base w w' := by
  have hrow := hT.row
  rcases hT.own.2 with ⟨e, h0⟩ | ⟨g, cap, cur, e, hb, hg, hc, hm, -⟩
  · cases h0
  · obtain ⟨rfl, rfl⟩ : B = some ⟨g, 0, none⟩ ∧ d = cap := by cases e; exact ⟨rfl, rfl⟩
    have HI := Lib.hid (indexF_any A c vb ⟨g, 0, none⟩ d w hA hv hrow)
    have HS := Lib.hid (scan1_any A c vb 1 (by decide) w hA hv)
    obtain ⟨ad2, e2, x0, -⟩ := hrow.at_ (Below.refl _ _) (show 1 < 2 by decide)
    obtain rfl : (⟨g, 0, none⟩ : Addr) = ad2 := Option.some.inj e2
    have y1 : w.cell? ⟨g, 1, none⟩ = some (.string (nmK 1)) := by have := x0 (by decide); exact this
    have hs0 : (w.cell? ⟨g, 0, none⟩).isSome = true := by
      obtain ⟨ad3, e3, x3, -⟩ := hrow.at_ (Below.refl _ _) (show 0 < 2 by decide)
      obtain rfl : (⟨g, 0, none⟩ : Addr) = ad3 := Option.some.inj e3
      have := x3 (by decide)
      rw [show (w.cell? ⟨g, 0, none⟩) = _ from this]; rfl
    have hcl : ∀ ty, (Builtin.clear_ #[34] ty #[.slice (some ⟨g, 0, none⟩) 2 d]).run Tryz.prog w = .ok (.tuple #[]) (w.setCells g 0 (List.replicate 2 (.string ByteArray.empty))) := fun ty =>
      Lib.run_clear_slice w _ 9 ty _ Tryz.underlying34 (fun _ => by kernel_rfl) rfl rfl g 0 2 d (by decide)
        (fun j hj => by rcases (show j = 0 ∨ j = 1 by omega) with rfl | rfl; exact hs0; exact (congrArg Option.isSome y1).trans rfl)
        (fun j hj => frozen_of_row _ _ _ _ _ hg)
    have HB := Lib.hid (below_setCells hb (List.replicate 2 (.string ByteArray.empty)) 0 w (Below.refl base w))
    have hd2 : 2 ≤ d := hc
    have hdc : (2 : Int) ≤ (d : Int) := by omega
    clear hd2 hc hm
    clear hb hg hT hrow x0 e2 hA hv hs0
    generalize w.setCells g 0 (List.replicate 2 (.string ByteArray.empty)) = w9 at *
    generalize nmK 1 = nm at *
    go_enter Tryz.func56, Tryz.ntmps56
    go_wp2_with fail
    refine HI.out.mono ?_; rintro e w1 ⟨rfl, rfl⟩
    go_wp2_with fail
    go_loopw [5, 6, 7] (fun i j _ wq => ∃ k : Nat, 1 ≤ k ∧ k ≤ 2 ∧ i = .int .i64 0 ∧ j = .int .i64 k ∧ wq = w1) (fun _ j _ _ => 2 - (intOf j).toNat)
    case atStart => exact ⟨1, by decide, by decide, rfl, rfl, rfl⟩
    case round =>
      obtain ⟨k, hk1, hk2, rfl, rfl, rfl⟩ := hrel
      rcases (show k = 1 ∨ k = 2 by omega) with rfl | rfl
      · go_wp2_with fail
        refine HS.out.mono ?_; rintro e w2 ⟨rfl, rfl⟩
        go_wp2_with fail
        go_roundw
        case rel => exact ⟨2, by decide, by decide, by first | rfl | go_num | trivial, by first | rfl | go_num | trivial, by first | rfl | trivial⟩
        case measure => simp [intOf]
      · go_wp2_with fail
        go_ret
        exact ⟨some ⟨g, 0, none⟩, d, rfl, HB.out⟩
end Go.Proofs.YtfibapfehgglhaaGreatDoor
