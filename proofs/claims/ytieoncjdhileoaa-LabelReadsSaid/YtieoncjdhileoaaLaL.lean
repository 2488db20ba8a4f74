/-
  What works of the laws of label comes to.
-/
import Derived.Test.YtieoncjdhileoaaLaK
namespace Go.Proofs.Ytieoncjdhileoaa
open Go.RowKit

theorem Read_ex (w : World) (m : Int) (hm : w.cell? ⟨0, 0, none⟩ = some (.int .i64 m)) :
    Calls Try.prog 27 #[.string ⟨#[123, 97, 61, 34, 120, 34, 44, 98, 61, 34, 121, 34, 125]⟩] w fun e w' => (∃ A c, e = .returned (.tuple #[.slice A 2 c, .bool true]) ∧ LabRow w' A 2 La.exF) ∧ Below w.heap.size w w' := by
  refine (Read_any _ (by decide) w m hm).mono ?_
  rintro e w2 (⟨L, A, c, hL, rfl, _, _, hrow, hb⟩ | ⟨hN, _⟩)
  · rw [La.ex3] at hL
    cases hL
    exact ⟨⟨A, c, rfl, hrow⟩, hb⟩
  · rw [La.ex3] at hN; cases hN
theorem Of_ex (w : World) :
    Calls Try.prog 25 #[.string ⟨#[1, 97, 1, 120, 1, 98, 1, 121]⟩] w fun e w' => (∃ A c, e = .returned (.tuple #[.slice A 2 c, .bool true]) ∧ LabRow w' A 2 La.exF) ∧ Below w.heap.size w w' := by
  refine (Of_any _ (by decide) w).mono ?_
  rintro e w2 (⟨L, A, c, hL, rfl, _, _, hrow, hb⟩ | ⟨hN, _⟩)
  · rw [La.ex5] at hL
    cases hL
    exact ⟨⟨A, c, rfl, hrow⟩, hb⟩
  · rw [La.ex5] at hN; cases hN

set_option maxRecDepth 100000 in
set_option maxHeartbeats 2000000 in
theorem works_any (w : World) (m : Int) (hm : w.cell? ⟨0, 0, none⟩ = some (.int .i64 m)) :
    Calls Try.prog 11 #[] w fun e w' => e = .returned (.bool true) ∧ Below w.heap.size w w' := by
  have hm2 : ∀ W, Below w.heap.size w W → W.cell? ⟨0, 0, none⟩ = some (.int .i64 m) := fun W hW => (hW.cell (block_lt_of_cell hm)).trans hm
  have HM := Lib.hid hm2; clear hm hm2
  have hB1 : Below w.heap.size w (w.alloc (.cells #[.string ⟨#[97]⟩, .string ⟨#[120]⟩, .string ⟨#[98]⟩, .string ⟨#[121]⟩] 38)) := (Below.refl _ _).alloc (Nat.le_refl _) _
  have hrow : LabRow (w.alloc (.cells #[.string ⟨#[97]⟩, .string ⟨#[120]⟩, .string ⟨#[98]⟩, .string ⟨#[121]⟩] 38)) (some ⟨w.heap.size, 0, none⟩) 2 La.exF := fun _ => by
    refine ⟨_, rfl, by simp, fun i hi => ?_⟩
    have hc := fun j => cell_of_row _ _ j _ _ _ (heap_alloc_new w (.cells #[.string ⟨#[97]⟩, .string ⟨#[120]⟩, .string ⟨#[98]⟩, .string ⟨#[121]⟩] 38))
    rw [Addr.add_lit, Addr.add_lit, Nat.zero_add, Nat.zero_add]
    match i, hi with
    | 0, _ => exact ⟨(hc 0).trans rfl, (hc 1).trans rfl⟩
    | 1, _ => exact ⟨(hc 2).trans rfl, (hc 3).trans rfl⟩
  have hz1 : (w.alloc (.cells #[.string ⟨#[97]⟩, .string ⟨#[120]⟩, .string ⟨#[98]⟩, .string ⟨#[121]⟩] 38)).heap.size = w.heap.size + 1 := by simp
  have HB1 := Lib.hid hB1; have HR1 := Lib.hid hrow; have HZ1 := Lib.hid hz1; clear hB1 hrow hz1
  have hcv : ∀ B : World, B.heap.size = w.heap.size + 1 → (convert 42 9 (.slice (some ⟨w.heap.size + 1, 0, none⟩) 1 1)).run Try.prog (B.alloc (.cells #[.int .u8 34] 5)) = .ok (.string ⟨#[34]⟩) (B.alloc (.cells #[.int .u8 34] 5)) := fun B hB => by
    have := arr_take (P := Try.prog) _ B.heap.size 42 5 9 5 [34] Try.underlying42 Try.underlying5 Try.underlying9 (heap_alloc_new B _) 1 1 (by decide)
    rw [hB] at this
    exact this
  have hcv1 := hcv _ HZ1.out
  clear hcv
  go_enter Try.func11, Try.ntmps11
  go_wp2_with fail
  clear hcv1
  have hb2 : Below w.heap.size w ((w.alloc (.cells #[.string ⟨#[97]⟩, .string ⟨#[120]⟩, .string ⟨#[98]⟩, .string ⟨#[121]⟩] 38)).alloc (.cells #[.int .u8 34] 5)) := HB1.out.alloc HB1.out.size _
  have hr2 := HR1.out.later (w2 := (w.alloc (.cells #[.string ⟨#[97]⟩, .string ⟨#[120]⟩, .string ⟨#[98]⟩, .string ⟨#[121]⟩] 38)).alloc (.cells #[.int .u8 34] 5)) ((Below.refl _ _).alloc (Nat.le_refl _) _)
  have HB2 := Lib.hid hb2; have HR2 := Lib.hid hr2; clear hb2 hr2 HB1 HR1 HZ1
  generalize (w.alloc (.cells #[.string ⟨#[97]⟩, .string ⟨#[120]⟩, .string ⟨#[98]⟩, .string ⟨#[121]⟩] 38)).alloc (.cells #[.int .u8 34] 5) = w2 at *
  generalize (⟨w.heap.size, 0, none⟩ : Addr) = ad at *
  refine (Show_any _ 2 2 (by decide) La.exF La.exS _ HR2.out).mono ?_; rintro e w3 ⟨rfl, hb3⟩
  have HB3 := Lib.hid (below_step HB2.out hb3); have HR3 := Lib.hid (HR2.out.later hb3); clear hb3 HB2 HR2
  rw [La.ex2]
  go_wp2_with fail
  refine (Read_ex _ m (HM.out _ HB3.out)).mono ?_; rintro e w4 ⟨⟨A4, c4, rfl, hr4⟩, hb4⟩
  have HB4 := Lib.hid (below_step HB3.out hb4); have HR4 := Lib.hid (HR3.out.later hb4); have HX4 := Lib.hid hr4; clear hb4 HB3 HR3 hr4
  go_wp2_with fail
  refine (Key_any _ 2 2 (by decide) La.exF La.exS _ HR4.out).mono ?_; rintro e w5 ⟨rfl, hb5⟩
  have HB5 := Lib.hid (below_step HB4.out hb5); have HR5 := Lib.hid (HR4.out.later hb5); have HX5 := Lib.hid (HX4.out.later hb5); clear hb5 HB4 HR4 HX4
  rw [La.ex4]
  go_wp2_with fail
  refine (Of_ex _).mono ?_; rintro e w6 ⟨⟨A6, c6, rfl, hr6⟩, hb6⟩
  have HB6 := Lib.hid (below_step HB5.out hb6); have HR6 := Lib.hid (HR5.out.later hb6); have HX6 := Lib.hid (HX5.out.later hb6); have HY6 := Lib.hid hr6; clear hb6 HB5 HR5 HX5 hr6
  go_wp2_with fail
  have r1 : (((La.err true : Nat) : Int) == 0) = true := by decide
  have r2 : (((La.err false : Nat) : Int) == 2) = true := by decide
  refine (Check_any _ 2 2 (by decide) La.exF (fun i hi => ⟨Nat.le_trans (La.exS i hi).1 (by decide), Nat.le_trans (La.exS i hi).2 (by decide)⟩) _ HR6.out).mono ?_; rintro e w7 ⟨rfl, hb7⟩
  have HB7 := Lib.hid (below_step HB6.out hb7); have HR7 := Lib.hid (HR6.out.later hb7); have HX7 := Lib.hid (HX6.out.later hb7); have HY7 := Lib.hid (HY6.out.later hb7); clear hb7 HB6 HR6 HX6 HY6; rw [La.ex1]
  go_wp2_with fail
  refine (Check_any none 0 0 (by decide) La.exF (fun i hi => absurd hi (by omega)) _ (fun h => absurd h (by omega))).mono ?_; rintro e w8 ⟨rfl, hb8⟩
  have HB8 := Lib.hid (below_step HB7.out hb8); have HR8 := Lib.hid (HR7.out.later hb8); have HX8 := Lib.hid (HX7.out.later hb8); have HY8 := Lib.hid (HY7.out.later hb8); clear hb8 HB7 HR7 HX7 HY7; rw [La.ex11]
  go_wp2_with fail
  refine (Same_any _ _ 2 2 _ _ (by decide) La.exF La.exF _ HR8.out HX8.out).mono ?_; rintro e w9 ⟨rfl, hb9⟩
  have HB9 := Lib.hid (below_step HB8.out hb9); have HR9 := Lib.hid (HR8.out.later hb9); have HX9 := Lib.hid (HX8.out.later hb9); have HY9 := Lib.hid (HY8.out.later hb9); clear hb9 HB8 HR8 HX8 HY8; rw [La.ex10]
  go_wp2_with fail
  refine (Same_any _ _ 2 2 _ _ (by decide) La.exF La.exF _ HR9.out HY9.out).mono ?_; rintro e w10 ⟨rfl, hb10⟩
  have HB10 := Lib.hid (below_step HB9.out hb10); have HR10 := Lib.hid (HR9.out.later hb10); have HX10 := Lib.hid (HX9.out.later hb10); have HY10 := Lib.hid (HY9.out.later hb10); clear hb10 HB9 HR9 HX9 HY9; rw [La.ex10]
  go_wp2_with fail
  refine (Same_any _ _ 2 1 _ _ (by decide) La.exF La.exF _ HR10.out (LabRow.less HR10.out (by omega))).mono ?_; rintro e w11 ⟨rfl, hb11⟩
  have HB11 := Lib.hid (below_step HB10.out hb11); have HR11 := Lib.hid (HR10.out.later hb11); have HX11 := Lib.hid (HX10.out.later hb11); have HY11 := Lib.hid (HY10.out.later hb11); clear hb11 HB10 HR10 HX10 HY10; rw [show (decide (2 = 1) && La.same La.exF La.exF 2) = false from rfl]
  go_wp2_with fail
  refine (Limit_any 1 _).mono ?_; rintro e wx ⟨rfl, rfl⟩; rw [show La.limit 1 = 12 from rfl]
  go_wp2_with fail
  refine (Longest_any _ 2 2 (by decide) La.exF (fun i hi => ⟨Nat.le_trans (La.exS i hi).1 (by decide), Nat.le_trans (La.exS i hi).2 (by decide)⟩) _ HR11.out).mono ?_; rintro e w12 ⟨rfl, hb12⟩
  have HB12 := Lib.hid (below_step HB11.out hb12); have HR12 := Lib.hid (HR11.out.later hb12); have HX12 := Lib.hid (HX11.out.later hb12); have HY12 := Lib.hid (HY11.out.later hb12); clear hb12 HB11 HR11 HX11 HY11; rw [La.ex8]
  go_wp2_with fail
  refine (Get_any _ 2 2 (by decide) La.exF _ _ HR12.out).mono ?_; rintro e w13 ⟨rfl, hb13⟩
  have HB13 := Lib.hid (below_step HB12.out hb13); have HR13 := Lib.hid (HR12.out.later hb13); have HX13 := Lib.hid (HX12.out.later hb13); have HY13 := Lib.hid (HY12.out.later hb13); clear hb13 HB12 HR12 HX12 HY12; rw [La.ex9]
  go_wp2_with fail
  refine (Less_any _ _ 1 2 _ _ (by decide) (by decide) La.exF La.exF (fun i hi => La.exS i (by omega)) La.exS _ (LabRow.less HR13.out (by omega)) HR13.out).mono ?_; rintro e w14 ⟨rfl, hb14⟩
  have HB14 := Lib.hid (below_step HB13.out hb14); have HR14 := Lib.hid (HR13.out.later hb14); have HX14 := Lib.hid (HX13.out.later hb14); have HY14 := Lib.hid (HY13.out.later hb14); clear hb14 HB13 HR13 HX13 HY13; rw [La.ex6]
  go_wp2_with fail
  refine (Less_any _ _ 2 1 _ _ (by decide) (by decide) La.exF La.exF La.exS (fun i hi => La.exS i (by omega)) _ HR14.out (LabRow.less HR14.out (by omega))).mono ?_; rintro e w15 ⟨rfl, hb15⟩
  have HB15 := Lib.hid (below_step HB14.out hb15); have HR15 := Lib.hid (HR14.out.later hb15); have HX15 := Lib.hid (HX14.out.later hb15); have HY15 := Lib.hid (HY14.out.later hb15); clear hb15 HB14 HR14 HX14 HY14; rw [La.ex7]
  go_wp2_with fail
  go_ret
  exact ⟨rfl, HB15.out⟩
  rename_i hno
  exact absurd (by decide +kernel) hno
end Go.Proofs.Ytieoncjdhileoaa
