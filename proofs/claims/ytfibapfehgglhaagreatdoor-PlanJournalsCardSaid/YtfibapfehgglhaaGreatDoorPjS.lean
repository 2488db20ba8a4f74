import Derived.Test.YtfibapfehgglhaaGreatDoorPjQ
/-
  How long a file's longest label is: the walks.
-/
namespace Go.Proofs.YtfibapfehgglhaaGreatDoor
open Go.RowKit
open Pj
set_option maxRecDepth 100000 in
set_option maxHeartbeats 2000000 in
theorem has_any (n s : ByteArray) (w : World) : Calls Tryz.prog 400 #[.agg #[.string n, .string s]] w fun e w' => e = .returned (.agg #[.string n, .string s]) ∧ Below w.heap.size w w' := by
  obtain ⟨w1, hw1⟩ : ∃ w1, w1 = w.alloc (.cells #[.string n, .string s] 120) := ⟨_, rfl⟩
  obtain ⟨b1, hb1⟩ : ∃ b1, b1 = w.heap.size := ⟨_, rfl⟩
  have hs1 : Below w.heap.size w w1 := by rw [hw1]; exact (Below.refl _ _).alloc (Nat.le_refl _) _
  have hx1 : w1.heap[b1]? = some (.cells #[.string n, .string s] 120 (0, 0)) := by rw [hw1, hb1]; exact heap_alloc_new w _
  obtain ⟨w2, hw2⟩ : ∃ w2, w2 = w1.alloc (.cells #[.string ByteArray.empty, .string ByteArray.empty] 120) := ⟨_, rfl⟩
  obtain ⟨b2, hb2⟩ : ∃ b2, b2 = w1.heap.size := ⟨_, rfl⟩
  have hs2 : Below w1.heap.size w1 w2 := by rw [hw2]; exact (Below.refl _ _).alloc (Nat.le_refl _) _
  have hx2 : w2.heap[b2]? = some (.cells #[.string ByteArray.empty, .string ByteArray.empty] 120 (0, 0)) := by rw [hw2, hb2]; exact heap_alloc_new w1 _
  have HB2 := Lib.hid (below_step hs1 hs2)
  have HLE : Hid (w.heap.size ≤ b2) := Lib.hid (by rw [hb2]; exact hs1.size)
  have e12 : w1.heap.size = w.heap.size + 1 := by rw [hw1]; simp
  rw [e12, ← hb1] at hb2
  have HX2 := Lib.hid hx2
  have hx := heap_keep hx1 hs2
  have y0 := cell_of_row _ _ 0 _ _ _ hx; have y1 := cell_of_row _ _ 1 _ _ _ hx
  have z0 := cell_of_row _ _ 0 _ _ _ hx2; have z1 := cell_of_row _ _ 1 _ _ _ hx2
  have f0 := frozen_of_row _ _ 0 _ _ hx2; have f1 := frozen_of_row _ _ 1 _ _ hx2
  simp only [List.getElem?_toArray, List.getElem?_cons_zero, List.getElem?_cons_succ] at y0 y1 z0 z1
  have HW := Lib.hid (And.intro hw1 (And.intro hb1 (And.intro hw2 hb2)))
  clear hs1 hx1 hs2 hx2 e12 hx hw1 hb1 hw2 hb2
  go_enter Tryz.func400, Tryz.ntmps400
  go_upto_region 1 with fail
  obtain ⟨hw1, hb1, hw2, hb2⟩ := HW.out
  have he : (ByteArray.empty : ByteArray) = ⟨#[]⟩ := rfl
  rw [he] at hw2
  rw [← hw1, ← hw2, ← hb1, ← hb2]
  clear hw1 hb1 hw2 hb2 HW he
  go_wp2_with fail
  have x0 := heap_setCell_same w2 b2 0 _ _ (.string n) HX2.out
  have x1 := heap_setCell_same _ b2 1 _ _ (.string s) x0
  exact bodyPost_ret (results_cell1 rfl _ _ b2 _ _ _ (.struct (Tryz.prog.fieldsOf 120)) rfl x1 (by kernel_rfl) rfl (by kernel_rfl)) rfl ⟨rfl, HB2.out.grown (grown_trans (grown_setCell w2 b2 0 _) (grown_setCell _ b2 1 _)) HB2.out.size (fun r e => by obtain rfl : b2 = r := Option.some.inj e; exact HLE.out)⟩
theorem ta_no (v : Value) (w : World) : (Instr.typeAssert (.iface 125 v) 87 122 true).run Tryz.prog w = .ok (.tuple #[.agg #[.string ByteArray.empty, .string ByteArray.empty], .bool false]) w := by kernel_rfl
theorem ta_no2 (v : Value) (w : World) : (Instr.typeAssert (.iface 125 v) 87 124 true).run Tryz.prog w = .ok (.tuple #[.agg #[.string ByteArray.empty, .string ByteArray.empty], .bool false]) w := by kernel_rfl
theorem ta_no3 (v : Value) (w : World) : (Instr.typeAssert (.iface 124 v) 87 122 true).run Tryz.prog w = .ok (.tuple #[.agg #[.string ByteArray.empty, .string ByteArray.empty], .bool false]) w := by kernel_rfl
theorem ta_yes (v : Value) (w : World) : (Instr.typeAssert (.iface 124 v) 87 124 true).run Tryz.prog w = .ok (.tuple #[v, .bool true]) w := by kernel_rfl
set_option maxRecDepth 100000 in
set_option maxHeartbeats 2000000 in
theorem longM_any (n s : ByteArray) (w : World) : Calls Tryz.prog 98 #[.iface 125 (.agg #[.string n, .string s])] w fun e w' => e = .returned (.int .i64 0) ∧ Below w.heap.size w w' := by
  have t1 := fun U => ta_no (.agg #[.string n, .string s]) U; have t2 := fun U => ta_no2 (.agg #[.string n, .string s]) U
  obtain ⟨w1, hw1⟩ : ∃ w1, w1 = w.alloc (.cells #[.string ByteArray.empty, .string ByteArray.empty] 122) := ⟨_, rfl⟩
  have hs1 : Below w.heap.size w w1 := by rw [hw1]; exact (Below.refl _ _).alloc (Nat.le_refl _) _
  obtain ⟨w2, hw2⟩ : ∃ w2, w2 = w1.alloc (.cells #[.string ByteArray.empty, .string ByteArray.empty] 124) := ⟨_, rfl⟩
  have hs2 : Below w1.heap.size w1 w2 := by rw [hw2]; exact (Below.refl _ _).alloc (Nat.le_refl _) _
  have HB2 := Lib.hid (below_step hs1 hs2)
  have HW := Lib.hid (And.intro hw1 hw2)
  clear hs1 hs2 hw1 hw2
  go_enter Tryz.func98, Tryz.ntmps98
  go_upto_region 3 with fail
  obtain ⟨hw1, hw2⟩ := HW.out
  rw [← hw1]
  clear hw1
  generalize w.heap.size = b
  go_upto_region 7 with fail
  rw [← hw2]
  clear hw2 HW
  go_wp2_with fail
  go_ret
  exact ⟨rfl, HB2.out⟩
set_option maxRecDepth 100000 in
set_option maxHeartbeats 4000000 in
theorem longW_any (n : ByteArray) (w : World) : Calls Tryz.prog 98 #[.iface 124 (.agg #[.string n, .string wB])] w fun e w' => e = .returned (.int .i64 0) ∧ Below w.heap.size w w' := by
  have HWR := Lib.hid (fun U => wread0_any U)
  generalize wB = s at *
  have t1 := fun U => ta_no3 (.agg #[.string n, .string s]) U; have t2 := fun U => ta_yes (.agg #[.string n, .string s]) U
  obtain ⟨w1, hw1⟩ : ∃ w1, w1 = w.alloc (.cells #[.string ByteArray.empty, .string ByteArray.empty] 122) := ⟨_, rfl⟩
  have hs1 : Below w.heap.size w w1 := by rw [hw1]; exact (Below.refl _ _).alloc (Nat.le_refl _) _
  obtain ⟨w2, hw2⟩ : ∃ w2, w2 = w1.alloc (.cells #[.string n, .string s] 124) := ⟨_, rfl⟩
  obtain ⟨b2, hb2⟩ : ∃ b2, b2 = w1.heap.size := ⟨_, rfl⟩
  have hs2 : Below w1.heap.size w1 w2 := by rw [hw2]; exact (Below.refl _ _).alloc (Nat.le_refl _) _
  have hx2 : w2.heap[b2]? = some (.cells #[.string n, .string s] 124 (0, 0)) := by rw [hw2, hb2]; exact heap_alloc_new w1 _
  have HB2 := Lib.hid (below_step hs1 hs2)
  have y1 := cell_of_row _ _ 1 _ _ _ hx2
  simp only [List.getElem?_toArray, List.getElem?_cons_zero, List.getElem?_cons_succ] at y1
  have HW := Lib.hid (And.intro hw1 (And.intro hw2 hb2))
  clear hs1 hs2 hw1 hw2 hb2 hx2
  go_enter Tryz.func98, Tryz.ntmps98
  go_upto_region 3 with fail
  obtain ⟨hw1, hw2, hb2⟩ := HW.out
  rw [← hw1]
  clear hw1
  generalize w.heap.size = b
  have HW2 := Lib.hid (And.intro hw2 hb2)
  clear hw2 hb2 HW
  go_upto_region 7 with fail
  obtain ⟨hw2, hb2⟩ := HW2.out
  rw [← hw2, ← hb2]
  clear hw2 hb2 HW2 t1 t2
  go_wp2_with fail
  refine (HWR.out w2).mono ?_; rintro e w3 ⟨rfl, hb3⟩
  have HB3 := Lib.hid (below_step HB2.out hb3)
  clear hb3 y1 HWR
  obtain ⟨w4, hw4⟩ : ∃ w4, w4 = w3.alloc (.cells seg0 62) := ⟨_, rfl⟩
  obtain ⟨b4, hb4⟩ : ∃ b4, b4 = w3.heap.size := ⟨_, rfl⟩
  have hs4 : Below w3.heap.size w3 w4 := by rw [hw4]; exact (Below.refl _ _).alloc (Nat.le_refl _) _
  have hx4 : w4.heap[b4]? = some (.cells seg0 62 (0, 0)) := by rw [hw4, hb4]; exact heap_alloc_new w3 _
  have HB4 := Lib.hid (below_step HB3.out hs4)
  unfold seg0 at hx4 hw4
  have y1 := cell_of_row _ _ 1 _ _ _ hx4
  simp only [List.getElem?_toArray, List.getElem?_cons_zero, List.getElem?_cons_succ] at y1
  have HW := Lib.hid (And.intro hw4 hb4)
  clear hx4 hs4 hw4 hb4
  unfold seg0
  go_upto_region 9 with fail
  obtain ⟨hw4, hb4⟩ := HW.out
  rw [← hw4, ← hb4]
  clear hw4 hb4 HW
  go_wp2_with fail
  go_loopw [3, 14, 47] (fun m _ i wq => m = .int .i64 0 ∧ i = .int .i64 0 ∧ wq = w4) (fun _ _ _ _ => 0)
  case atStart => exact ⟨rfl, rfl, rfl⟩
  case round =>
    obtain ⟨rfl, rfl, rfl⟩ := hrel
    go_wp2_with fail
    go_ret
    exact ⟨rfl, HB4.out⟩
end Go.Proofs.YtfibapfehgglhaaGreatDoor
/-
  A new store's files as items: the walks.
-/
namespace Go.Proofs.YtfibapfehgglhaaGreatDoor
open Go.RowKit
open Pj
set_option maxRecDepth 100000 in
set_option maxHeartbeats 8000000 in
theorem itemM_any (w : World) : Calls Tryz.prog 55 #[.iface 125 (.agg #[.string metaN, .string (mB 3)])] w fun e w' => e = .returned (.agg #[.string metaN, .int .i64 3, .int .i64 0]) ∧ Below w.heap.size w w' := by
  have HL := Lib.hid (fun U => longM_any metaN (mB 3) U)
  have HOP := Lib.hid (fun W => Open_any (mB 3) (by rw [mB3_size]; decide) Me.amet (by decide) W)
  unfold Four at HOP
  rw [mB3_open] at HOP
  have HMG := Lib.hid (fun U n s => magM_any (.agg #[.string n, .string s]) U n s rfl)
  generalize Fr.put (Me.body (m0 3)) = rs at *
  generalize hgs : mB 3 = s at *
  generalize metaN = n at *
  generalize Me.amet = mg at *
  clear hgs
  have HHS := Lib.hid (fun U => has_any n s U)
  have k1 := fun U => (files_has n s U 125 (by simp)).1; have k2 := fun U => (files_has n s U 125 (by simp)).2
  have k3 := fun U => (files_magicM n s U).1; have k4 := fun U => (files_magicM n s U).2
  have K3 := Lib.hid k3; have K4 := Lib.hid k4
  clear k3 k4
  obtain ⟨w1, hw1⟩ : ∃ w1, w1 = w.alloc (.cells #[.string ByteArray.empty, .int .i64 0, .int .i64 0] 43) := ⟨_, rfl⟩
  obtain ⟨b1, hb1⟩ : ∃ b1, b1 = w.heap.size := ⟨_, rfl⟩
  have hs1 : Below w.heap.size w w1 := by rw [hw1]; exact (Below.refl _ _).alloc (Nat.le_refl _) _
  have hx1 : w1.heap[b1]? = some (.cells #[.string ByteArray.empty, .int .i64 0, .int .i64 0] 43 (0, 0)) := by rw [hw1, hb1]; exact heap_alloc_new w _
  have HB1 := Lib.hid hs1; have HX1 := Lib.hid hx1; have HLE : Hid (w.heap.size ≤ b1) := Lib.hid (by rw [hb1]; exact Nat.le_refl _)
  have HW := Lib.hid (And.intro hw1 hb1)
  clear hs1 hx1 hw1 hb1
  go_enter Tryz.func55, Tryz.ntmps55
  go_upto_region 1 with fail
  obtain ⟨hw1, hb1⟩ := HW.out
  have he : (ByteArray.empty : ByteArray) = ⟨#[]⟩ := rfl
  rw [he] at hw1
  rw [← hw1, ← hb1]
  clear hw1 hb1 HW he
  go_wp2_with fail
  refine (HHS.out w1).mono ?_; rintro e w2 ⟨rfl, hb2⟩
  have HB2 := Lib.hid (below_step HB1.out hb2); have HX2 := Lib.hid (heap_keep HX1.out hb2)
  obtain ⟨w3, hw3⟩ : ∃ w3, w3 = w2.alloc (.cells #[.string n, .string s] 120) := ⟨_, rfl⟩
  obtain ⟨b3, hb3⟩ : ∃ b3, b3 = w2.heap.size := ⟨_, rfl⟩
  have hs3 : Below w2.heap.size w2 w3 := by rw [hw3]; exact (Below.refl _ _).alloc (Nat.le_refl _) _
  have hx3 : w3.heap[b3]? = some (.cells #[.string n, .string s] 120 (0, 0)) := by rw [hw3, hb3]; exact heap_alloc_new w2 _
  have HB3 := Lib.hid (below_step HB2.out hs3); have HX3 := Lib.hid (heap_keep HX2.out hs3); have HY3 := Lib.hid hx3
  have HW := Lib.hid (And.intro hw3 hb3)
  clear hs3 hx3 hw3 hb3 hb2 HHS k1 k2 HB1 HX1 HB2 HX2
  go_upto_region 2 with fail
  obtain ⟨hw3, hb3⟩ := HW.out
  rw [← hw3, ← hb3]
  clear hw3 hb3 HW
  have k3 := K3.out; have k4 := K4.out
  refine plain_robJ [(0, some 11), (1, some 12), (2, some 13), (3, some 14), (4, some 15), (5, some 10), (6, some 16), (7, some 17), (8, some 18), (9, some 19), (10, some 4), (11, some 5), (12, some 6), (13, some 7)] [] (fun U V => Below U.heap.size U V) (fun U => Below w3.heap.size w3 U) [(0, .pointer (some ⟨b3, 1, none⟩)), (1, .string s), (2, .iface 125 (.agg #[.string n, .string s])), (3, .string mg), (4, .tuple #[.int .i64 ((3 : Nat) : Int), .int .i64 ((0 : Nat) : Int), .string rs, .int .i64 ((0 : Nat) : Int)]), (5, .tuple #[.int .i64 ((3 : Nat) : Int), .int .i64 ((0 : Nat) : Int), .string rs, .int .i64 ((0 : Nat) : Int)]), (6, .int .i64 ((3 : Nat) : Int)), (7, .int .i64 ((0 : Nat) : Int)), (8, .string rs), (9, .int .i64 ((0 : Nat) : Int)), (10, .int .i64 ((3 : Nat) : Int)), (11, .int .i64 ((0 : Nat) : Int)), (12, .string rs), (13, .int .i64 ((0 : Nat) : Int))] [] 0 (by kernel_rfl) (by kernel_rfl) (by kernel_rfl) ((Below.refl _ _).drew) (fun U V h hb => below_step h hb) ?_ ?_ ?_
  · intro p hp; cases hp
  · refine ⟨⟨_, rfl, fun ν U hU hp => ?_⟩, ?_⟩
    · simp only [zr, zx]; exact zy
    refine ⟨⟨_, rfl, fun ν U hU hp => ?_⟩, ?_⟩
    · simp only [zr, zx, zv hp 0]; exact zy (h := by have h0 : U.cell? ⟨b3, 1, none⟩ = some (.string s) := cell_of_row _ _ _ _ _ _ (heap_keep HY3.out hU); go_simp)
    refine ⟨⟨_, rfl, fun ν U hU hp => ?_⟩, ?_⟩
    · simp only [zr, zx]; exact zy
    refine ⟨⟨_, rfl, fun ν U hU hp => ?_⟩, ?_⟩
    · simp only [zr, zx, zv hp 2]
      exact zc 403 #[.agg #[.string n, .string s]] (HMG.out U n s)
    refine ⟨⟨_, rfl, fun ν U hU hp => ?_⟩, ?_⟩
    · simp only [zr, zx, zv hp 1, zv hp 3]
      exact zc 12 #[.string s, .string mg] (HOP.out U)
    refine ⟨⟨_, rfl, fun ν U hU hp => ?_⟩, ?_⟩
    · simp only [zr, zx, zv hp 4]; exact zy
    refine ⟨⟨_, rfl, fun ν U hU hp => ?_⟩, ?_⟩
    · simp only [zr, zx, zv hp 5]
      exact Yld.value (.int .i64 ((3 : Nat) : Int)) U (by kernel_rfl) (by go_simp) ⟨Below.refl _ _, Fx.fixed rfl rfl⟩
    refine ⟨⟨_, rfl, fun ν U hU hp => ?_⟩, ?_⟩
    · simp only [zr, zx, zv hp 5]
      exact Yld.value (.int .i64 ((0 : Nat) : Int)) U (by kernel_rfl) (by go_simp) ⟨Below.refl _ _, Fx.fixed rfl rfl⟩
    refine ⟨⟨_, rfl, fun ν U hU hp => ?_⟩, ?_⟩
    · simp only [zr, zx, zv hp 5]
      exact Yld.value (.string rs) U (by kernel_rfl) (by go_simp) ⟨Below.refl _ _, Fx.fixed rfl rfl⟩
    refine ⟨⟨_, rfl, fun ν U hU hp => ?_⟩, ?_⟩
    · simp only [zr, zx, zv hp 5]
      exact Yld.value (.int .i64 ((0 : Nat) : Int)) U (by kernel_rfl) (by go_simp) ⟨Below.refl _ _, Fx.fixed rfl rfl⟩
    refine ⟨⟨_, rfl, fun ν U hU hp => ?_⟩, ?_⟩
    · simp only [zr, zx, zv hp 6]; exact zy
    refine ⟨⟨_, rfl, fun ν U hU hp => ?_⟩, ?_⟩
    · simp only [zr, zx, zv hp 7]; exact zy
    refine ⟨⟨_, rfl, fun ν U hU hp => ?_⟩, ?_⟩
    · simp only [zr, zx, zv hp 8]; exact zy
    refine ⟨⟨_, rfl, fun ν U hU hp => ?_⟩, ?_⟩
    · simp only [zr, zx, zv hp 9]; exact zy
    trivial
  intro ν w4 hS4 hf
  simp only [zr, zx, zw hf 0, zw hf 1, zw hf 2, zw hf 3, zw hf 4, zw hf 5, zw hf 6, zw hf 7, zw hf 8, zw hf 9, zw hf 10, zw hf 11, zw hf 12, zw hf 13]
  clear hf
  have HB4 := Lib.hid (below_step HB3.out hS4); have HX4 := Lib.hid (heap_keep HX3.out hS4); have HY4 := Lib.hid (heap_keep HY3.out hS4)
  clear hS4 HB3 HX3 HY3 k3 k4 K3 K4 HMG HOP
  refine wpAnyT_done (by kernel_rfl) ?_ _
  refine only_mk ?_
  go_upto_region 3 with fail
  refine plain_robJ [(0, some 20), (1, some 21), (2, some 22), (3, some 23), (4, some 24), (5, some 25)] [6] (fun U V => Below U.heap.size U V) (fun U => Below w4.heap.size w4 U) [(0, .pointer (some ⟨b3, 0, none⟩)), (1, .string n), (2, .int .i64 3), (3, .iface 125 (.agg #[.string n, .string s])), (4, .int .i64 0), (5, .agg #[.string n, .int .i64 3, .int .i64 0])] [] 1 (by kernel_rfl) (by kernel_rfl) (by kernel_rfl) ((Below.refl _ _).drew) (fun U V h hb => below_step h hb) ?_ ?_ ?_
  · intro p hp; cases hp
  · refine ⟨⟨_, rfl, fun ν U hU hp => ?_⟩, ?_⟩
    · simp only [zr, zx]; exact zy
    refine ⟨⟨_, rfl, fun ν U hU hp => ?_⟩, ?_⟩
    · simp only [zr, zx, zv hp 0]; exact zy (h := by have h0 : U.cell? ⟨b3, 0, none⟩ = some (.string n) := cell_of_row _ _ _ _ _ _ (heap_keep HY4.out hU); go_simp)
    refine ⟨⟨_, rfl, fun ν U hU hp => ?_⟩, ?_⟩
    · simp only [zr, zx]; exact zy
    refine ⟨⟨_, rfl, fun ν U hU hp => ?_⟩, ?_⟩
    · simp only [zr, zx]; exact zy
    refine ⟨⟨_, rfl, fun ν U hU hp => ?_⟩, ?_⟩
    · simp only [zr, zx, zv hp 3]
      exact zc 98 #[.iface 125 (.agg #[.string n, .string s])] (HL.out U)
    refine ⟨⟨_, rfl, fun ν U hU hp => ?_⟩, ?_⟩
    · simp only [zr, zx, zv hp 1, zv hp 2, zv hp 4]; exact zy
    trivial
  intro ν w5 hS5 hf
  simp only [zr, zx, zw hf 0, zw hf 1, zw hf 2, zw hf 3, zw hf 4, zw hf 5]
  clear hf
  have HB5 := Lib.hid (below_step HB4.out hS5)
  have hx := heap_keep HX4.out hS5
  have HX5 := Lib.hid hx
  have z0 := cell_of_row _ _ 0 _ _ _ hx; have z1 := cell_of_row _ _ 1 _ _ _ hx; have z2 := cell_of_row _ _ 2 _ _ _ hx
  have f0 := frozen_of_row _ _ 0 _ _ hx; have f1 := frozen_of_row _ _ 1 _ _ hx; have f2 := frozen_of_row _ _ 2 _ _ hx
  simp only [List.getElem?_toArray, List.getElem?_cons_zero, List.getElem?_cons_succ] at z0 z1 z2
  clear hx hS5
  refine zo 6 ?_
  intro K0 hK
  unfold Oper.wp
  go_simp
  refine hK _ _ (fun _ => trivial) ?_
  clear hK K0
  refine wpAnyT_done (by kernel_rfl) ?_ _
  refine only_mk ?_
  go_wp2_with fail
  have x0 := heap_setCell_same w5 b1 0 _ _ (.string n) HX5.out
  have x1 := heap_setCell_same _ b1 1 _ _ (.int .i64 3) x0
  have x2 := heap_setCell_same _ b1 2 _ _ (.int .i64 0) x1
  exact bodyPost_ret (results_cell1 rfl _ _ b1 _ _ _ (.struct (Tryz.prog.fieldsOf 43)) rfl x2 (by kernel_rfl) rfl (by kernel_rfl)) rfl ⟨rfl, HB5.out.grown (grown_trans (grown_trans (grown_setCell w5 b1 0 _) (grown_setCell _ b1 1 _)) (grown_setCell _ b1 2 _)) HB5.out.size (fun r e => by obtain rfl : b1 = r := Option.some.inj e; exact HLE.out)⟩
set_option maxRecDepth 100000 in
set_option maxHeartbeats 8000000 in
theorem itemW_any (w : World) : Calls Tryz.prog 55 #[.iface 124 (.agg #[.string walN, .string wB])] w fun e w' => e = .returned (.agg #[.string walN, .int .i64 3, .int .i64 0]) ∧ Below w.heap.size w w' := by
  have HL := Lib.hid (fun U => longW_any walN U)
  have HOP := Lib.hid (fun W => Open_any (wB) (by rw [wB_size]; decide) awal (by decide) W)
  unfold Four at HOP
  rw [wB_open] at HOP
  have HMG := Lib.hid (fun U n s => magW_any (.agg #[.string n, .string s]) U n s rfl)
  obtain ⟨rs, hrs⟩ : ∃ rs, rs = ByteArray.empty := ⟨_, rfl⟩
  rw [← hrs] at HOP
  clear hrs
  generalize hgs : wB = s at *
  generalize walN = n at *
  generalize awal = mg at *
  clear hgs
  have HHS := Lib.hid (fun U => has_any n s U)
  have k1 := fun U => (files_has n s U 124 (by simp)).1; have k2 := fun U => (files_has n s U 124 (by simp)).2
  have k3 := fun U => (files_magicW n s U).1; have k4 := fun U => (files_magicW n s U).2
  have K3 := Lib.hid k3; have K4 := Lib.hid k4
  clear k3 k4
  obtain ⟨w1, hw1⟩ : ∃ w1, w1 = w.alloc (.cells #[.string ByteArray.empty, .int .i64 0, .int .i64 0] 43) := ⟨_, rfl⟩
  obtain ⟨b1, hb1⟩ : ∃ b1, b1 = w.heap.size := ⟨_, rfl⟩
  have hs1 : Below w.heap.size w w1 := by rw [hw1]; exact (Below.refl _ _).alloc (Nat.le_refl _) _
  have hx1 : w1.heap[b1]? = some (.cells #[.string ByteArray.empty, .int .i64 0, .int .i64 0] 43 (0, 0)) := by rw [hw1, hb1]; exact heap_alloc_new w _
  have HB1 := Lib.hid hs1; have HX1 := Lib.hid hx1; have HLE : Hid (w.heap.size ≤ b1) := Lib.hid (by rw [hb1]; exact Nat.le_refl _)
  have HW := Lib.hid (And.intro hw1 hb1)
  clear hs1 hx1 hw1 hb1
  go_enter Tryz.func55, Tryz.ntmps55
  go_upto_region 1 with fail
  obtain ⟨hw1, hb1⟩ := HW.out
  have he : (ByteArray.empty : ByteArray) = ⟨#[]⟩ := rfl
  rw [he] at hw1
  rw [← hw1, ← hb1]
  clear hw1 hb1 HW he
  go_wp2_with fail
  refine (HHS.out w1).mono ?_; rintro e w2 ⟨rfl, hb2⟩
  have HB2 := Lib.hid (below_step HB1.out hb2); have HX2 := Lib.hid (heap_keep HX1.out hb2)
  obtain ⟨w3, hw3⟩ : ∃ w3, w3 = w2.alloc (.cells #[.string n, .string s] 120) := ⟨_, rfl⟩
  obtain ⟨b3, hb3⟩ : ∃ b3, b3 = w2.heap.size := ⟨_, rfl⟩
  have hs3 : Below w2.heap.size w2 w3 := by rw [hw3]; exact (Below.refl _ _).alloc (Nat.le_refl _) _
  have hx3 : w3.heap[b3]? = some (.cells #[.string n, .string s] 120 (0, 0)) := by rw [hw3, hb3]; exact heap_alloc_new w2 _
  have HB3 := Lib.hid (below_step HB2.out hs3); have HX3 := Lib.hid (heap_keep HX2.out hs3); have HY3 := Lib.hid hx3
  have HW := Lib.hid (And.intro hw3 hb3)
  clear hs3 hx3 hw3 hb3 hb2 HHS k1 k2 HB1 HX1 HB2 HX2
  go_upto_region 2 with fail
  obtain ⟨hw3, hb3⟩ := HW.out
  rw [← hw3, ← hb3]
  clear hw3 hb3 HW
  have k3 := K3.out; have k4 := K4.out
  refine plain_robJ [(0, some 11), (1, some 12), (2, some 13), (3, some 14), (4, some 15), (5, some 10), (6, some 16), (7, some 17), (8, some 18), (9, some 19), (10, some 4), (11, some 5), (12, some 6), (13, some 7)] [] (fun U V => Below U.heap.size U V) (fun U => Below w3.heap.size w3 U) [(0, .pointer (some ⟨b3, 1, none⟩)), (1, .string s), (2, .iface 124 (.agg #[.string n, .string s])), (3, .string mg), (4, .tuple #[.int .i64 ((3 : Nat) : Int), .int .i64 ((0 : Nat) : Int), .string rs, .int .i64 ((0 : Nat) : Int)]), (5, .tuple #[.int .i64 ((3 : Nat) : Int), .int .i64 ((0 : Nat) : Int), .string rs, .int .i64 ((0 : Nat) : Int)]), (6, .int .i64 ((3 : Nat) : Int)), (7, .int .i64 ((0 : Nat) : Int)), (8, .string rs), (9, .int .i64 ((0 : Nat) : Int)), (10, .int .i64 ((3 : Nat) : Int)), (11, .int .i64 ((0 : Nat) : Int)), (12, .string rs), (13, .int .i64 ((0 : Nat) : Int))] [] 0 (by kernel_rfl) (by kernel_rfl) (by kernel_rfl) ((Below.refl _ _).drew) (fun U V h hb => below_step h hb) ?_ ?_ ?_
  · intro p hp; cases hp
  · refine ⟨⟨_, rfl, fun ν U hU hp => ?_⟩, ?_⟩
    · simp only [zr, zx]; exact zy
    refine ⟨⟨_, rfl, fun ν U hU hp => ?_⟩, ?_⟩
    · simp only [zr, zx, zv hp 0]; exact zy (h := by have h0 : U.cell? ⟨b3, 1, none⟩ = some (.string s) := cell_of_row _ _ _ _ _ _ (heap_keep HY3.out hU); go_simp)
    refine ⟨⟨_, rfl, fun ν U hU hp => ?_⟩, ?_⟩
    · simp only [zr, zx]; exact zy
    refine ⟨⟨_, rfl, fun ν U hU hp => ?_⟩, ?_⟩
    · simp only [zr, zx, zv hp 2]
      exact zc 402 #[.agg #[.string n, .string s]] (HMG.out U n s)
    refine ⟨⟨_, rfl, fun ν U hU hp => ?_⟩, ?_⟩
    · simp only [zr, zx, zv hp 1, zv hp 3]
      exact zc 12 #[.string s, .string mg] (HOP.out U)
    refine ⟨⟨_, rfl, fun ν U hU hp => ?_⟩, ?_⟩
    · simp only [zr, zx, zv hp 4]; exact zy
    refine ⟨⟨_, rfl, fun ν U hU hp => ?_⟩, ?_⟩
    · simp only [zr, zx, zv hp 5]
      exact Yld.value (.int .i64 ((3 : Nat) : Int)) U (by kernel_rfl) (by go_simp) ⟨Below.refl _ _, Fx.fixed rfl rfl⟩
    refine ⟨⟨_, rfl, fun ν U hU hp => ?_⟩, ?_⟩
    · simp only [zr, zx, zv hp 5]
      exact Yld.value (.int .i64 ((0 : Nat) : Int)) U (by kernel_rfl) (by go_simp) ⟨Below.refl _ _, Fx.fixed rfl rfl⟩
    refine ⟨⟨_, rfl, fun ν U hU hp => ?_⟩, ?_⟩
    · simp only [zr, zx, zv hp 5]
      exact Yld.value (.string rs) U (by kernel_rfl) (by go_simp) ⟨Below.refl _ _, Fx.fixed rfl rfl⟩
    refine ⟨⟨_, rfl, fun ν U hU hp => ?_⟩, ?_⟩
    · simp only [zr, zx, zv hp 5]
      exact Yld.value (.int .i64 ((0 : Nat) : Int)) U (by kernel_rfl) (by go_simp) ⟨Below.refl _ _, Fx.fixed rfl rfl⟩
    refine ⟨⟨_, rfl, fun ν U hU hp => ?_⟩, ?_⟩
    · simp only [zr, zx, zv hp 6]; exact zy
    refine ⟨⟨_, rfl, fun ν U hU hp => ?_⟩, ?_⟩
    · simp only [zr, zx, zv hp 7]; exact zy
    refine ⟨⟨_, rfl, fun ν U hU hp => ?_⟩, ?_⟩
    · simp only [zr, zx, zv hp 8]; exact zy
    refine ⟨⟨_, rfl, fun ν U hU hp => ?_⟩, ?_⟩
    · simp only [zr, zx, zv hp 9]; exact zy
    trivial
  intro ν w4 hS4 hf
  simp only [zr, zx, zw hf 0, zw hf 1, zw hf 2, zw hf 3, zw hf 4, zw hf 5, zw hf 6, zw hf 7, zw hf 8, zw hf 9, zw hf 10, zw hf 11, zw hf 12, zw hf 13]
  clear hf
  have HB4 := Lib.hid (below_step HB3.out hS4); have HX4 := Lib.hid (heap_keep HX3.out hS4); have HY4 := Lib.hid (heap_keep HY3.out hS4)
  clear hS4 HB3 HX3 HY3 k3 k4 K3 K4 HMG HOP
  refine wpAnyT_done (by kernel_rfl) ?_ _
  refine only_mk ?_
  go_upto_region 3 with fail
  refine plain_robJ [(0, some 20), (1, some 21), (2, some 22), (3, some 23), (4, some 24), (5, some 25)] [6] (fun U V => Below U.heap.size U V) (fun U => Below w4.heap.size w4 U) [(0, .pointer (some ⟨b3, 0, none⟩)), (1, .string n), (2, .int .i64 3), (3, .iface 124 (.agg #[.string n, .string s])), (4, .int .i64 0), (5, .agg #[.string n, .int .i64 3, .int .i64 0])] [] 1 (by kernel_rfl) (by kernel_rfl) (by kernel_rfl) ((Below.refl _ _).drew) (fun U V h hb => below_step h hb) ?_ ?_ ?_
  · intro p hp; cases hp
  · refine ⟨⟨_, rfl, fun ν U hU hp => ?_⟩, ?_⟩
    · simp only [zr, zx]; exact zy
    refine ⟨⟨_, rfl, fun ν U hU hp => ?_⟩, ?_⟩
    · simp only [zr, zx, zv hp 0]; exact zy (h := by have h0 : U.cell? ⟨b3, 0, none⟩ = some (.string n) := cell_of_row _ _ _ _ _ _ (heap_keep HY4.out hU); go_simp)
    refine ⟨⟨_, rfl, fun ν U hU hp => ?_⟩, ?_⟩
    · simp only [zr, zx]; exact zy
    refine ⟨⟨_, rfl, fun ν U hU hp => ?_⟩, ?_⟩
    · simp only [zr, zx]; exact zy
    refine ⟨⟨_, rfl, fun ν U hU hp => ?_⟩, ?_⟩
    · simp only [zr, zx, zv hp 3]
      exact zc 98 #[.iface 124 (.agg #[.string n, .string s])] (HL.out U)
    refine ⟨⟨_, rfl, fun ν U hU hp => ?_⟩, ?_⟩
    · simp only [zr, zx, zv hp 1, zv hp 2, zv hp 4]; exact zy
    trivial
  intro ν w5 hS5 hf
  simp only [zr, zx, zw hf 0, zw hf 1, zw hf 2, zw hf 3, zw hf 4, zw hf 5]
  clear hf
  have HB5 := Lib.hid (below_step HB4.out hS5)
  have hx := heap_keep HX4.out hS5
  have HX5 := Lib.hid hx
  have z0 := cell_of_row _ _ 0 _ _ _ hx; have z1 := cell_of_row _ _ 1 _ _ _ hx; have z2 := cell_of_row _ _ 2 _ _ _ hx
  have f0 := frozen_of_row _ _ 0 _ _ hx; have f1 := frozen_of_row _ _ 1 _ _ hx; have f2 := frozen_of_row _ _ 2 _ _ hx
  simp only [List.getElem?_toArray, List.getElem?_cons_zero, List.getElem?_cons_succ] at z0 z1 z2
  clear hx hS5
  refine zo 6 ?_
  intro K0 hK
  unfold Oper.wp
  go_simp
  refine hK _ _ (fun _ => trivial) ?_
  clear hK K0
  refine wpAnyT_done (by kernel_rfl) ?_ _
  refine only_mk ?_
  go_wp2_with fail
  have x0 := heap_setCell_same w5 b1 0 _ _ (.string n) HX5.out
  have x1 := heap_setCell_same _ b1 1 _ _ (.int .i64 3) x0
  have x2 := heap_setCell_same _ b1 2 _ _ (.int .i64 0) x1
  exact bodyPost_ret (results_cell1 rfl _ _ b1 _ _ _ (.struct (Tryz.prog.fieldsOf 43)) rfl x2 (by kernel_rfl) rfl (by kernel_rfl)) rfl ⟨rfl, HB5.out.grown (grown_trans (grown_trans (grown_setCell w5 b1 0 _) (grown_setCell _ b1 1 _)) (grown_setCell _ b1 2 _)) HB5.out.size (fun r e => by obtain rfl : b1 = r := Option.some.inj e; exact HLE.out)⟩
end Go.Proofs.YtfibapfehgglhaaGreatDoor
