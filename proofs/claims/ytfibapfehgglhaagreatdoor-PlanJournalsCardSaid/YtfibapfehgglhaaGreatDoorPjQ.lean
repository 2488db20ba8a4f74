import Derived.Test.YtfibapfehgglhaaGreatDoorPjO
/-
  A new store, loaded: the walk.
-/
namespace Go.Proofs.YtfibapfehgglhaaGreatDoor
open Go.RowKit
open Pj
theorem Pj.Fin.mk0 {wr U : World} {A : Option Addr} {c bm b1 b2 bg : Nat} (hz : Zeros U wr.heap.size) (hb : Below wr.heap.size wr U) (hm : U.heap[bm]? = some (.cells (mV A c) 54 (0, 0))) (h1 : U.heap[b1]? = some (.cells zT 57 (0, 0))) (h2 : U.heap[b2]? = some (.cells zT 57 (0, 0))) (hg : U.heap[bg]? = some (.cells seg0 62 (0, 0))) (hl : wr.heap.size + 3 < bm ∧ wr.heap.size + 3 < b1 ∧ wr.heap.size + 3 < b2 ∧ wr.heap.size + 3 < bg) : Fin wr wr.heap.size bm b1 b2 bg A c false false U :=
  ⟨hm, h1, h2, hg, hz.1, hz.2.1, hz.2.2.1, hz.2.2.2, hb, Nat.le_refl _, hl⟩
set_option maxRecDepth 100000 in
set_option maxHeartbeats 8000000 in
theorem Load2_any {W : World} {base fb B N : Nat} {S : Sf.St} {wr : World} (h : Runs W base fb B N S wr) (hE : Env W) (h2 : Two S 3) :
    Calls Tryz.prog 14 #[.pointer (some ⟨fb, 0, none⟩)] wr fun e w' => ∃ A c, e = .returned (.tuple #[.agg (mV A c), .agg zT, .agg zT, .agg seg0, .int .i64 0]) ∧ Below wr.heap.size wr w' := by
  obtain ⟨hz, hb, -⟩ := zeros_is wr
  have HZ := Lib.hid hz; have HB := Lib.hid hb; have HR := Lib.hid (h.far hb)
  have HGT := Lib.hid (Gate_any (h.far hb) hE h2.cp.dead _ (h2.gated h.ok h.keys) (by rw [h2.list h.ok h.keys]; decide))
  have HRM := Lib.hid (fun U (hU : Below (zeros wr).heap.size (zeros wr) U) => (HR.out.far hU).read metaN (by decide))
  have HRW := Lib.hid (fun U (hU : Below (zeros wr).heap.size (zeros wr) U) => (HR.out.far hU).read walN (by decide))
  rw [h2.readM] at HRM
  rw [h2.readW] at HRW
  have HMG := Lib.hid (fun U => MGet_any (mB 3) (by rw [mB3_size]; decide) U)
  have hgot : Me.got (mB 3) = (m0 3, 0) := Me.got_bytes (m0 3) (m0_valid 3 (by omega))
  rw [hgot] at HMG
  have HE := Lib.hid (fun U (hU : Below (zeros wr).heap.size (zeros wr) U) => hE.later (HR.out.far hU).bel)
  have hzs : (zeros wr).heap.size = wr.heap.size + 4 := by unfold zeros; simp
  have HZS := Lib.hid hzs
  obtain ⟨mb, hmb⟩ : ∃ mb, mb = mB 3 := ⟨_, rfl⟩
  obtain ⟨sb, hsb⟩ : ∃ sb, sb = wB := ⟨_, rfl⟩
  have HWR := Lib.hid (fun U => wread0_any U)
  rw [← hmb] at HRM HMG
  rw [← hsb] at HRW HWR
  clear h hz hb hgot h2 hzs hmb hsb hE
  go_enter Tryz.func14, Tryz.ntmps14
  go_upto_region 1 with fail
  have e : (((wr.alloc (.cells #[.int .i64 0, .int .i64 0, .int .i64 0, .slice none 0 0] 54)).alloc (.cells #[.slice none 0 0, .int .i64 0] 57)).alloc (.cells #[.slice none 0 0, .int .i64 0] 57)).alloc (.cells #[.int .i64 0, .slice none 0 0, .int .i64 0, .bool false, .int .i64 0, .slice none 0 0] 62) = zeros wr := rfl
  rw [e]
  clear e
  generalize zeros wr = w1 at *
  obtain ⟨b, hbb⟩ : ∃ b, b = wr.heap.size := ⟨_, rfl⟩
  have HBB := Lib.hid hbb
  rw [← hbb]
  clear hbb
  go_wp2_with fail
  refine HGT.out.mono ?_; rintro e w2 ⟨rfl, hb2⟩
  have HB2 := Lib.hid hb2
  clear hb2 HGT
  go_wp2_with fail
  refine (HRM.out w2 HB2.out).mono ?_; rintro e w3 ⟨rfl, hb3⟩
  have HB3 := Lib.hid (below_step HB2.out hb3)
  clear hb3 HRM HB2
  go_wp2_with fail
  refine (HMG.out w3).mono ?_; rintro e w4 ⟨A, c, rfl, -, -, hb4⟩
  have HB4 := Lib.hid (below_step HB3.out hb4)
  clear hb4 HMG HB3
  have hval : (Me.M.val (m0 3) A c) = .agg (mV A c) := rfl
  rw [hval]
  clear hval
  obtain ⟨w5, hw5⟩ : ∃ w5, w5 = w4.alloc (.cells (mV A c) 54) := ⟨_, rfl⟩
  obtain ⟨bm, hbm⟩ : ∃ bm, bm = w4.heap.size := ⟨_, rfl⟩
  have hs5 : Below w4.heap.size w4 w5 := by rw [hw5]; exact (Below.refl _ _).alloc (Nat.le_refl _) _
  have hx5 : w5.heap[bm]? = some (.cells (mV A c) 54 (0, 0)) := by rw [hw5, hbm]; exact heap_alloc_new w4 _
  have HB5 := Lib.hid (below_step HB4.out hs5); have HX5 := Lib.hid hx5
  have HBM : Hid (w1.heap.size ≤ bm) := Lib.hid (by rw [hbm]; exact HB4.out.size)
  have HW5 := Lib.hid (And.intro hw5 hbm)
  unfold mV at hx5
  have y2 := cell_of_row _ _ 2 _ _ _ hx5; have y3 := cell_of_row _ _ 3 _ _ _ hx5
  simp only [List.getElem?_toArray, List.getElem?_cons_zero, List.getElem?_cons_succ] at y2 y3
  clear hs5 hx5 hw5 hbm
  unfold mV
  go_upto_region 8 with fail
  obtain ⟨hw5, hbm⟩ := HW5.out
  unfold mV at hw5
  rw [← hw5, ← hbm]
  clear hw5 hbm HW5
  go_wp2_with fail
  refine (blocks0_any _ A c w5).mono ?_; rintro e w6 ⟨rfl, hb6⟩
  have HB6 := Lib.hid (below_step HB5.out hb6); have HX6 := Lib.hid (heap_keep HX5.out hb6)
  clear hb6 HB5 HX5 y2 y3
  obtain ⟨w7, hw7⟩ : ∃ w7, w7 = w6.alloc (.cells zT 57) := ⟨_, rfl⟩
  obtain ⟨b1, hb1⟩ : ∃ b1, b1 = w6.heap.size := ⟨_, rfl⟩
  have hs7 : Below w6.heap.size w6 w7 := by rw [hw7]; exact (Below.refl _ _).alloc (Nat.le_refl _) _
  have hx7 : w7.heap[b1]? = some (.cells zT 57 (0, 0)) := by rw [hw7, hb1]; exact heap_alloc_new w6 _
  have HB7 := Lib.hid (below_step HB6.out hs7); have HY7 := Lib.hid hx7; have HX7 := Lib.hid (heap_keep HX6.out hs7)
  have HB1 : Hid (w1.heap.size ≤ b1) := Lib.hid (by rw [hb1]; exact HB6.out.size)
  have HW7 := Lib.hid (And.intro hw7 hb1)
  have hx := HX7.out
  unfold mV at hx
  have y2 := cell_of_row _ _ 2 _ _ _ hx
  simp only [List.getElem?_toArray, List.getElem?_cons_zero, List.getElem?_cons_succ] at y2
  have HWN := Lib.hid (walName_any 0 w7 (HE.out w7 HB7.out))
  rw [walN_is] at HWN
  clear hs7 hx7 hw7 hb1 hx HB6 HX6
  unfold zT
  go_upto_region 11 with fail
  obtain ⟨hw7, hb1⟩ := HW7.out
  unfold zT at hw7
  rw [← hw7, ← hb1]
  clear hw7 hb1 HW7
  go_wp2_with fail
  refine HWN.out.mono ?_; rintro e w8 ⟨rfl, hb8⟩
  have HB8 := Lib.hid (below_step HB7.out hb8); have HY8 := Lib.hid (heap_keep HY7.out hb8); have HX8 := Lib.hid (heap_keep HX7.out hb8)
  clear hb8 HB7 HY7 HX7 HWN y2
  go_wp2_with fail
  refine (HRW.out w8 HB8.out).mono ?_; rintro e w9 ⟨rfl, hb9⟩
  have HB9 := Lib.hid (below_step HB8.out hb9); have HY9 := Lib.hid (heap_keep HY8.out hb9); have HX9 := Lib.hid (heap_keep HX8.out hb9)
  clear hb9 HB8 HY8 HX8 HRW
  go_wp2_with fail
  refine (HWR.out w9).mono ?_; rintro e w10 ⟨rfl, hb10⟩
  have HB10 := Lib.hid (below_step HB9.out hb10); have HY10 := Lib.hid (heap_keep HY9.out hb10); have HX10 := Lib.hid (heap_keep HX9.out hb10)
  clear hb10 HB9 HY9 HX9 HWR
  obtain ⟨w11, hw11⟩ : ∃ w11, w11 = w10.alloc (.cells seg0 62) := ⟨_, rfl⟩
  obtain ⟨bg, hbg⟩ : ∃ bg, bg = w10.heap.size := ⟨_, rfl⟩
  have hs11 : Below w10.heap.size w10 w11 := by rw [hw11]; exact (Below.refl _ _).alloc (Nat.le_refl _) _
  have hx11 : w11.heap[bg]? = some (.cells seg0 62 (0, 0)) := by rw [hw11, hbg]; exact heap_alloc_new w10 _
  have HB11 := Lib.hid (below_step HB10.out hs11); have HG11 := Lib.hid hx11; have HY11 := Lib.hid (heap_keep HY10.out hs11); have HX11 := Lib.hid (heap_keep HX10.out hs11)
  have HBG : Hid (w1.heap.size ≤ bg) := Lib.hid (by rw [hbg]; exact HB10.out.size)
  have HW11 := Lib.hid (And.intro hw11 hbg)
  unfold seg0 at hx11
  have y1 := cell_of_row _ _ 1 _ _ _ hx11
  have hx := HY11.out
  unfold zT at hx
  have x0 := cell_of_row _ _ 0 _ _ _ hx; have x1 := cell_of_row _ _ 1 _ _ _ hx
  simp only [List.getElem?_toArray, List.getElem?_cons_zero, List.getElem?_cons_succ] at y1 x0 x1
  clear hs11 hx11 hw11 hbg hx HB10 HY10 HX10
  unfold seg0
  go_upto_region 15 with fail
  obtain ⟨hw11, hbg⟩ := HW11.out
  unfold seg0 at hw11
  rw [← hw11, ← hbg]
  clear hw11 hbg HW11
  go_wp2_with fail
  refine (all0_any w11).mono ?_; rintro e w12 ⟨rfl, hb12⟩
  have HB12 := Lib.hid (below_step HB11.out hb12); have HG12 := Lib.hid (heap_keep HG11.out hb12); have HY12 := Lib.hid (heap_keep HY11.out hb12); have HX12 := Lib.hid (heap_keep HX11.out hb12)
  clear hb12 HB11 HG11 HY11 HX11 y1 x0 x1
  obtain ⟨w13, hw13⟩ : ∃ w13, w13 = w12.alloc (.cells zT 57) := ⟨_, rfl⟩
  obtain ⟨b2, hb2⟩ : ∃ b2, b2 = w12.heap.size := ⟨_, rfl⟩
  have hs13 : Below w12.heap.size w12 w13 := by rw [hw13]; exact (Below.refl _ _).alloc (Nat.le_refl _) _
  have hx13 : w13.heap[b2]? = some (.cells zT 57 (0, 0)) := by rw [hw13, hb2]; exact heap_alloc_new w12 _
  have HB13 := Lib.hid (below_step HB12.out hs13); have HZ13 := Lib.hid hx13; have HG13 := Lib.hid (heap_keep HG12.out hs13); have HY13 := Lib.hid (heap_keep HY12.out hs13); have HX13 := Lib.hid (heap_keep HX12.out hs13)
  have HB2 : Hid (w1.heap.size ≤ b2) := Lib.hid (by rw [hb2]; exact HB12.out.size)
  have HW13 := Lib.hid (And.intro hw13 hb2)
  have hx := HG13.out
  unfold seg0 at hx
  have y1 := cell_of_row _ _ 1 _ _ _ hx
  simp only [List.getElem?_toArray, List.getElem?_cons_zero, List.getElem?_cons_succ] at y1
  clear hs13 hx13 hw13 hb2 hx HB12 HG12 HY12 HX12
  unfold zT
  go_upto_region 18 with fail
  obtain ⟨hw13, hb2⟩ := HW13.out
  unfold zT at hw13
  rw [← hw13, ← hb2]
  clear hw13 hb2 HW13
  go_upto_region 20 with fail
  have hsz := HZS.out; have hm1 := HBM.out; have hm2 := HB1.out; have hm3 := HB2.out; have hm4 := HBG.out
  have HF : Hid (Fin wr b bm b1 b2 bg A c false false w13.drew) := Lib.hid (by
    rw [HBB.out]
    exact Fin.mk0 ((HZ.out.later HB13.out).later (Below.refl _ _).drew) (below_step HB.out HB13.out).drew HX13.out HY13.out HZ13.out HG13.out ⟨by omega, by omega, by omega, by omega⟩)
  clear hsz hm1 hm2 hm3 hm4 y1
  have e2 : b + 1 + 1 = b + 2 := rfl
  have e3 : b + 2 + 1 = b + 3 := rfl
  rw [e2, e3]
  clear e2 e3
  refine plain_robD [(0, some 113), (1, some 114), (2, some 115), (3, some 116), (4, none), (5, none), (6, none), (7, none), (8, some 6)] [] (fun _ _ => True) (fun δ U => Fin wr b bm b1 b2 bg A c (δ 4) (δ 7) U) [(0, .agg (mV A c)), (1, .agg (zT)), (2, .agg (zT)), (3, .agg (seg0)), (4, undef), (5, undef), (6, undef), (7, undef), (8, .int .i64 0)] [] 0 (by kernel_rfl) (by kernel_rfl) (by kernel_rfl) (HF.out) ?_ ?_ ?_
  · intro p hp; cases hp
  · refine ⟨⟨_, rfl, fun ν δ U hU h00 h1 h2 hp => ?_⟩, ?_⟩
    · simp only [zr, zx]
      dsimp only at hU
      have hx := hU.m
      unfold mV at hx
      have y0 := cell_of_row _ _ 0 _ _ _ hx
      have y1 := cell_of_row _ _ 1 _ _ _ hx
      have y2 := cell_of_row _ _ 2 _ _ _ hx
      have y3 := cell_of_row _ _ 3 _ _ _ hx
      simp only [List.getElem?_toArray, List.getElem?_cons_zero, List.getElem?_cons_succ] at y0 y1 y2 y3
      exact Yld.value (.agg (mV A c)) U (by kernel_rfl) (by unfold mV; go_simp) ⟨trivial, by simpa using hU, Fx.fixed rfl rfl⟩
    refine ⟨⟨_, rfl, fun ν δ U hU h00 h1 h2 hp => ?_⟩, ?_⟩
    · simp only [zr, zx]
      dsimp only at hU
      have hx := hU.s1
      unfold zT at hx
      have y0 := cell_of_row _ _ 0 _ _ _ hx
      have y1 := cell_of_row _ _ 1 _ _ _ hx
      simp only [List.getElem?_toArray, List.getElem?_cons_zero, List.getElem?_cons_succ] at y0 y1
      exact Yld.value (.agg (zT)) U (by kernel_rfl) (by unfold zT; go_simp) ⟨trivial, by simpa using hU, Fx.fixed rfl rfl⟩
    refine ⟨⟨_, rfl, fun ν δ U hU h00 h1 h2 hp => ?_⟩, ?_⟩
    · simp only [zr, zx]
      dsimp only at hU
      have hx := hU.s2
      unfold zT at hx
      have y0 := cell_of_row _ _ 0 _ _ _ hx
      have y1 := cell_of_row _ _ 1 _ _ _ hx
      simp only [List.getElem?_toArray, List.getElem?_cons_zero, List.getElem?_cons_succ] at y0 y1
      exact Yld.value (.agg (zT)) U (by kernel_rfl) (by unfold zT; go_simp) ⟨trivial, by simpa using hU, Fx.fixed rfl rfl⟩
    refine ⟨⟨_, rfl, fun ν δ U hU h00 h1 h2 hp => ?_⟩, ?_⟩
    · simp only [zr, zx]
      dsimp only at hU
      have hx := hU.g
      unfold seg0 at hx
      have y0 := cell_of_row _ _ 0 _ _ _ hx
      have y1 := cell_of_row _ _ 1 _ _ _ hx
      have y2 := cell_of_row _ _ 2 _ _ _ hx
      have y3 := cell_of_row _ _ 3 _ _ _ hx
      have y4 := cell_of_row _ _ 4 _ _ _ hx
      have y5 := cell_of_row _ _ 5 _ _ _ hx
      simp only [List.getElem?_toArray, List.getElem?_cons_zero, List.getElem?_cons_succ] at y0 y1 y2 y3 y4 y5
      exact Yld.value (.agg (seg0)) U (by kernel_rfl) (by unfold seg0; go_simp) ⟨trivial, by simpa using hU, Fx.fixed rfl rfl⟩
    refine ⟨⟨_, rfl, fun ν δ U hU h00 h1 h2 hp => ?_⟩, ?_⟩
    · simp only [zr, zx, zv hp 0]
      dsimp only at hU
      have hx : U.heap[b]? = some (.cells zM 54 (0, 0)) := by { have := hU.r0; rw [h00] at this; exact this }
      unfold zM at hx
      have y0 := cell_of_row _ _ 0 _ _ _ hx
      have y1 := cell_of_row _ _ 1 _ _ _ hx
      have y2 := cell_of_row _ _ 2 _ _ _ hx
      have y3 := cell_of_row _ _ 3 _ _ _ hx
      have f0 := frozen_of_row _ _ 0 _ _ hx
      have f1 := frozen_of_row _ _ 1 _ _ hx
      have f2 := frozen_of_row _ _ 2 _ _ hx
      have f3 := frozen_of_row _ _ 3 _ _ hx
      simp only [List.getElem?_toArray, List.getElem?_cons_zero, List.getElem?_cons_succ] at y0 y1 y2 y3
      exact Yld.store ((((U.setCell ⟨b, 0, none⟩ (.int .i64 3)).setCell ⟨b, 1, none⟩ (.int .i64 1)).setCell ⟨b, 2, none⟩ (.int .i64 0)).setCell ⟨b, 3, none⟩ (.slice A 0 c)) (by kernel_rfl) (by unfold mV; go_simp) ⟨trivial, by { rw [h00] at hU; simpa using hU.step4 }, Fx.fixed rfl rfl⟩
    refine ⟨⟨_, rfl, fun ν δ U hU h00 h1 h2 hp => ?_⟩, ?_⟩
    · simp only [zr, zx, zv hp 1]
      dsimp only at hU
      have hx := hU.r1
      unfold zT at hx
      have y0 := cell_of_row _ _ 0 _ _ _ hx
      have y1 := cell_of_row _ _ 1 _ _ _ hx
      have f0 := frozen_of_row _ _ 0 _ _ hx
      have f1 := frozen_of_row _ _ 1 _ _ hx
      simp only [List.getElem?_toArray, List.getElem?_cons_zero, List.getElem?_cons_succ] at y0 y1
      exact Yld.store ((U.setCell ⟨b + 1, 0, none⟩ (.slice none 0 0)).setCell ⟨b + 1, 1, none⟩ (.int .i64 0)) (by kernel_rfl) (by unfold zT; go_simp) ⟨trivial, by { rw [setCell_id hU.r1 rfl, setCell_id hU.r1 rfl]; simpa using hU }, Fx.fixed rfl rfl⟩
    refine ⟨⟨_, rfl, fun ν δ U hU h00 h1 h2 hp => ?_⟩, ?_⟩
    · simp only [zr, zx, zv hp 2]
      dsimp only at hU
      have hx := hU.r2
      unfold zT at hx
      have y0 := cell_of_row _ _ 0 _ _ _ hx
      have y1 := cell_of_row _ _ 1 _ _ _ hx
      have f0 := frozen_of_row _ _ 0 _ _ hx
      have f1 := frozen_of_row _ _ 1 _ _ hx
      simp only [List.getElem?_toArray, List.getElem?_cons_zero, List.getElem?_cons_succ] at y0 y1
      exact Yld.store ((U.setCell ⟨b + 2, 0, none⟩ (.slice none 0 0)).setCell ⟨b + 2, 1, none⟩ (.int .i64 0)) (by kernel_rfl) (by unfold zT; go_simp) ⟨trivial, by { rw [setCell_id hU.r2 rfl, setCell_id hU.r2 rfl]; simpa using hU }, Fx.fixed rfl rfl⟩
    refine ⟨⟨_, rfl, fun ν δ U hU h00 h1 h2 hp => ?_⟩, ?_⟩
    · simp only [zr, zx, zv hp 3]
      dsimp only at hU
      have hx : U.heap[b + 3]? = some (.cells zS 62 (0, 0)) := by { have := hU.r3; rw [h00] at this; exact this }
      unfold zS at hx
      have y0 := cell_of_row _ _ 0 _ _ _ hx
      have y1 := cell_of_row _ _ 1 _ _ _ hx
      have y2 := cell_of_row _ _ 2 _ _ _ hx
      have y3 := cell_of_row _ _ 3 _ _ _ hx
      have y4 := cell_of_row _ _ 4 _ _ _ hx
      have y5 := cell_of_row _ _ 5 _ _ _ hx
      have f0 := frozen_of_row _ _ 0 _ _ hx
      have f1 := frozen_of_row _ _ 1 _ _ hx
      have f2 := frozen_of_row _ _ 2 _ _ hx
      have f3 := frozen_of_row _ _ 3 _ _ hx
      have f4 := frozen_of_row _ _ 4 _ _ hx
      have f5 := frozen_of_row _ _ 5 _ _ hx
      simp only [List.getElem?_toArray, List.getElem?_cons_zero, List.getElem?_cons_succ] at y0 y1 y2 y3 y4 y5
      exact Yld.store ((((((U.setCell ⟨b + 3, 0, none⟩ (.int .i64 0)).setCell ⟨b + 3, 1, none⟩ (.slice none 0 0)).setCell ⟨b + 3, 2, none⟩ (.int .i64 10)).setCell ⟨b + 3, 3, none⟩ (.bool false)).setCell ⟨b + 3, 4, none⟩ (.int .i64 3)).setCell ⟨b + 3, 5, none⟩ (.slice none 0 0)) (by kernel_rfl) (by unfold seg0; go_simp) ⟨trivial, by { rw [h00] at hU; simpa using hU.step7 }, Fx.fixed rfl rfl⟩
    refine ⟨⟨_, rfl, fun ν δ U hU h00 h1 h2 hp => ?_⟩, ?_⟩
    · simp only [zr, zx]
      dsimp only at hU
      exact Yld.value (.int .i64 0) U (by kernel_rfl) (by go_simp) ⟨trivial, by simpa using hU, Fx.fixed rfl rfl⟩
    trivial
  intro ν δ w14 hS14 hd hf
  simp only [zr, zx, zw hf 0, zw hf 1, zw hf 2, zw hf 3, zw hf 8]
  clear hf
  rw [hd 4 (by kernel_rfl), hd 7 (by kernel_rfl)] at hS14
  refine wpAnyT_done (by kernel_rfl) ?_ _
  refine only_mk ?_
  have HS := Lib.hid hS14
  clear hS14 hd HF
  go_wp2_with fail
  exact bodyPost_ret (load_results rfl _ _ wr b bm b1 b2 bg A c 0 HS.out rfl rfl rfl rfl rfl) rfl ⟨A, c, rfl, HS.out.bel⟩
end Go.Proofs.YtfibapfehgglhaaGreatDoor
/-
  A file by its name, and as an item: the walks.
-/
namespace Go.Proofs.YtfibapfehgglhaaGreatDoor
open Go.RowKit
open Pj
def Pj.otherN : ByteArray := ⟨#[111, 116, 104, 101, 114]⟩
theorem Pj.parse_other : (Me.parse otherN).1 = ByteArray.empty := by decide +kernel
/-- a file by its name -/
def Pj.FileOf (T : TypeId) (n s : ByteArray) (w : World) (e : Ending) (w' : World) : Prop := e = .returned (.iface T (.agg #[.string n, .string s])) ∧ Below w.heap.size w w'
set_option maxRecDepth 100000 in
set_option maxHeartbeats 2000000 in
theorem fileM_any (s : ByteArray) (w : World) (hE : Env w) : Calls Tryz.prog 28 #[.string metaN, .string s] w (FileOf 125 metaN s w) := by
  obtain ⟨w1, hw1⟩ : ∃ w1, w1 = w.alloc (.cells #[.string metaN, .string s] 120) := ⟨_, rfl⟩
  obtain ⟨b, hb⟩ : ∃ b, b = w.heap.size := ⟨_, rfl⟩
  have hs1 : Below w.heap.size w w1 := by rw [hw1]; exact (Below.refl _ _).alloc (Nat.le_refl _) _
  have hx1 : w1.heap[b]? = some (.cells #[.string metaN, .string s] 120 (0, 0)) := by rw [hw1, hb]; exact heap_alloc_new w _
  have HB1 := Lib.hid hs1; have HX1 := Lib.hid hx1
  have HP := Lib.hid (Parse_any metaN (by decide) w1 (hE.later hs1))
  have hm : metaN = ⟨#[109, 101, 116, 97]⟩ := rfl
  unfold FileOf
  rw [hm] at HP hw1 HX1 ⊢
  have d1 : (([109, 101, 116, 97] : List UInt8) == [109, 101, 116, 97]) = true := rfl
  generalize Me.parse ⟨#[109, 101, 116, 97]⟩ = pp at *
  have HW := Lib.hid (And.intro hw1 hb)
  clear hs1 hx1 hw1 hb hm
  go_enter Tryz.func28, Tryz.ntmps28
  go_upto_region 2 with fail
  obtain ⟨hw1, hb⟩ := HW.out
  rw [← hw1, ← hb]
  clear hw1 hb HW
  go_wp2_with fail
  refine HP.out.mono ?_; rintro e w2 ⟨rfl, hb2⟩
  have HB2 := Lib.hid (below_step HB1.out hb2)
  have hx := heap_keep HX1.out hb2
  have y0 := cell_of_row _ _ 0 _ _ _ hx; have y1 := cell_of_row _ _ 1 _ _ _ hx
  simp only [List.getElem?_toArray, List.getElem?_cons_zero, List.getElem?_cons_succ] at y0 y1
  clear hb2 HP hx HX1
  go_wp2_with fail
  go_ret
  exact ⟨rfl, HB2.out⟩
set_option maxRecDepth 100000 in
set_option maxHeartbeats 2000000 in
theorem fileW_any (s : ByteArray) (w : World) (hE : Env w) : Calls Tryz.prog 28 #[.string walN, .string s] w (FileOf 124 walN s w) := by
  obtain ⟨w1, hw1⟩ : ∃ w1, w1 = w.alloc (.cells #[.string walN, .string s] 120) := ⟨_, rfl⟩
  obtain ⟨b, hb⟩ : ∃ b, b = w.heap.size := ⟨_, rfl⟩
  have hs1 : Below w.heap.size w w1 := by rw [hw1]; exact (Below.refl _ _).alloc (Nat.le_refl _) _
  have hx1 : w1.heap[b]? = some (.cells #[.string walN, .string s] 120 (0, 0)) := by rw [hw1, hb]; exact heap_alloc_new w _
  have HB1 := Lib.hid hs1; have HX1 := Lib.hid hx1
  have HP := Lib.hid (Parse_any walN (by decide) w1 (hE.later hs1))
  rw [parse_wal] at HP
  have hm : walN = ⟨#[119, 97, 108, 45, 48, 48, 48, 48, 48, 48]⟩ := rfl
  have hk : walK = ⟨#[119, 97, 108]⟩ := rfl
  unfold FileOf
  rw [hk] at HP
  rw [hm] at HP hw1 HX1 ⊢
  have d1 : (([119, 97, 108, 45, 48, 48, 48, 48, 48, 48] : List UInt8) == [109, 101, 116, 97]) = false := rfl
  have d2 : (([119, 97, 108] : List UInt8) == [119, 97, 108]) = true := rfl
  generalize (Me.parse ⟨#[119, 97, 108, 45, 48, 48, 48, 48, 48, 48]⟩).2 = pp at *
  have HW := Lib.hid (And.intro hw1 hb)
  clear hs1 hx1 hw1 hb hm hk
  go_enter Tryz.func28, Tryz.ntmps28
  go_upto_region 2 with fail
  obtain ⟨hw1, hb⟩ := HW.out
  rw [← hw1, ← hb]
  clear hw1 hb HW
  go_wp2_with fail
  refine HP.out.mono ?_; rintro e w2 ⟨rfl, hb2⟩
  have HB2 := Lib.hid (below_step HB1.out hb2)
  have hx := heap_keep HX1.out hb2
  have y0 := cell_of_row _ _ 0 _ _ _ hx; have y1 := cell_of_row _ _ 1 _ _ _ hx
  simp only [List.getElem?_toArray, List.getElem?_cons_zero, List.getElem?_cons_succ] at y0 y1
  clear hb2 HP hx HX1
  go_wp2_with fail
  go_ret
  exact ⟨rfl, HB2.out⟩
set_option maxRecDepth 100000 in
set_option maxHeartbeats 2000000 in
theorem fileO_any (s : ByteArray) (w : World) (hE : Env w) : Calls Tryz.prog 28 #[.string otherN, .string s] w (FileOf 129 otherN s w) := by
  obtain ⟨w1, hw1⟩ : ∃ w1, w1 = w.alloc (.cells #[.string otherN, .string s] 120) := ⟨_, rfl⟩
  obtain ⟨b, hb⟩ : ∃ b, b = w.heap.size := ⟨_, rfl⟩
  have hs1 : Below w.heap.size w w1 := by rw [hw1]; exact (Below.refl _ _).alloc (Nat.le_refl _) _
  have hx1 : w1.heap[b]? = some (.cells #[.string otherN, .string s] 120 (0, 0)) := by rw [hw1, hb]; exact heap_alloc_new w _
  have HB1 := Lib.hid hs1; have HX1 := Lib.hid hx1
  have HP := Lib.hid (Parse_any otherN (by decide) w1 (hE.later hs1))
  rw [parse_other] at HP
  have hm : otherN = ⟨#[111, 116, 104, 101, 114]⟩ := rfl
  unfold FileOf
  rw [hm] at HP hw1 HX1 ⊢
  have hk : ByteArray.empty = ⟨#[]⟩ := rfl
  rw [hk] at HP
  have d1 : (([111, 116, 104, 101, 114] : List UInt8) == [109, 101, 116, 97]) = false := rfl
  generalize (Me.parse ⟨#[111, 116, 104, 101, 114]⟩).2 = pp at *
  have HW := Lib.hid (And.intro hw1 hb)
  clear hs1 hx1 hw1 hb hm hk
  go_enter Tryz.func28, Tryz.ntmps28
  go_upto_region 2 with fail
  obtain ⟨hw1, hb⟩ := HW.out
  rw [← hw1, ← hb]
  clear hw1 hb HW
  go_wp2_with fail
  refine HP.out.mono ?_; rintro e w2 ⟨rfl, hb2⟩
  have HB2 := Lib.hid (below_step HB1.out hb2)
  have hx := heap_keep HX1.out hb2
  have y0 := cell_of_row _ _ 0 _ _ _ hx; have y1 := cell_of_row _ _ 1 _ _ _ hx
  simp only [List.getElem?_toArray, List.getElem?_cons_zero, List.getElem?_cons_succ] at y0 y1
  clear hb2 HP hx HX1
  go_wp2_with fail
  go_ret
  exact ⟨rfl, HB2.out⟩
theorem files_has (n s : ByteArray) (U : World) (T : TypeId) (hT : T = 125 ∨ T = 124) : (nilAhead 616 T (.agg #[.string n, .string s]) "alluvium/plan.has").run Tryz.prog U = .ok (some false) U ∧ (method 616 T (.agg #[.string n, .string s]) "alluvium/plan.has").run Tryz.prog U = .ok (400, .agg #[.string n, .string s]) U := by
  rcases hT with rfl | rfl <;> exact ⟨by kernel_rfl, by kernel_rfl⟩
theorem files_magicM (n s : ByteArray) (U : World) : (nilAhead 616 125 (.agg #[.string n, .string s]) "alluvium/plan.magic").run Tryz.prog U = .ok (some false) U ∧ (method 616 125 (.agg #[.string n, .string s]) "alluvium/plan.magic").run Tryz.prog U = .ok (403, .agg #[.string n, .string s]) U := ⟨by kernel_rfl, by kernel_rfl⟩
theorem files_magicW (n s : ByteArray) (U : World) : (nilAhead 616 124 (.agg #[.string n, .string s]) "alluvium/plan.magic").run Tryz.prog U = .ok (some false) U ∧ (method 616 124 (.agg #[.string n, .string s]) "alluvium/plan.magic").run Tryz.prog U = .ok (402, .agg #[.string n, .string s]) U := ⟨by kernel_rfl, by kernel_rfl⟩
set_option maxRecDepth 100000 in
theorem magM_any (v : Value) (w : World) (n s : ByteArray) (hv : v = .agg #[.string n, .string s]) : Calls Tryz.prog 403 #[v] w fun e w' => e = .returned (.string Me.amet) ∧ Below w.heap.size w w' := by
  subst hv
  have HB := Lib.hid ((Below.refl w.heap.size w).alloc (Nat.le_refl _) (.cells #[.string n, .string s] 125))
  go_enter Tryz.func403, Tryz.ntmps403
  go_wp2_with fail
  go_ret
  exact ⟨rfl, HB.out⟩
set_option maxRecDepth 100000 in
theorem magW_any (v : Value) (w : World) (n s : ByteArray) (hv : v = .agg #[.string n, .string s]) : Calls Tryz.prog 402 #[v] w fun e w' => e = .returned (.string awal) ∧ Below w.heap.size w w' := by
  subst hv
  have HB := Lib.hid ((Below.refl w.heap.size w).alloc (Nat.le_refl _) (.cells #[.string n, .string s] 124))
  go_enter Tryz.func402, Tryz.ntmps402
  go_wp2_with fail
  go_ret
  exact ⟨rfl, HB.out⟩
theorem results_cell1 {P : Program} {fn : Func} {p : Tmp} {ty : TypeId} (h : fn.results = #[.cell p ty]) (tmps : Array Value) (w : World) (g : Nat) (u : TypeId) (cs : Array Value) (fr : Nat × Nat) (d : TypeDesc)
    (hp : tmps.getD p undef = .pointer (some ⟨g, 0, none⟩)) (hg : w.heap[g]? = some (.cells cs u fr))
    (hu : P.underlying ty = some d) (hd : (match d with | .struct _ | .array _ _ => true | _ => false) = true) (hi : (P.info? ty).map (·.size) = some cs.size) :
    (results fn tmps).run P w = .ok (.agg cs) w := by
  have hp' : tmps[p]?.getD undef = .pointer (some ⟨g, 0, none⟩) := by simpa using hp
  simp [results, h, hp', asAddr, run_loadVar_row w g u ty cs fr d hg hu hd hi]
end Go.Proofs.YtfibapfehgglhaaGreatDoor
