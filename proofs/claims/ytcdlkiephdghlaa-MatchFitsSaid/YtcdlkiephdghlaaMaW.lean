/-
  What works of the laws of package match comes to.
-/
import Derived.Test.YtcdlkiephdghlaaMaF
import Derived.Test.YtcdlkiephdghlaaMaG
namespace Go.Proofs.Ytcdlkiephdghlaa
open Go.RowKit
theorem Row.none {k : Nat} {x : Nat → Nat → Value} {w : World} : Row k x w none 0 := fun h => absurd h (Nat.lt_irrefl 0)
namespace Ma
def exL (_ : Nat) : Lab := (⟨#[97]⟩, ⟨#[120, 121]⟩)
def exS (i : Nat) : Sam := ⟨2 * (i : Int) + 1, 0⟩
def exM : Mat := ⟨1, ⟨#[97]⟩, ⟨#[120, 121]⟩⟩
def exD (_ : Nat) : Mat := ⟨4, ⟨#[97]⟩, ByteArray.empty⟩
def exT (_ : Nat) : Sam := ⟨1, 0⟩
theorem x1 : fits ⟨0, ⟨#[98]⟩, ByteArray.empty⟩ exL 1 = true := by decide +kernel
theorem x2 : fits ⟨2, ⟨#[97]⟩, ⟨#[120]⟩⟩ exL 1 = true := by decide +kernel
theorem x3 : fits exM exL 1 = false := by decide +kernel
theorem x4 : (sel (fun i => inT 2 5 (exS i).t) 3).length = 2 := by decide +kernel
theorem x5 : sel (fun i => !inT 2 5 (exS i).t) 3 = [0] := by decide +kernel
theorem x6 : all exD 0 exL 1 = true := by decide +kernel
theorem x7 : allRight exD 0 = true := by decide +kernel
theorem x8 : allRight exD 1 = false := by decide +kernel
theorem x9 : (sel (fun _ => all exD 0 exL 1) 1).length = 1 := by decide +kernel
theorem x10 : rising exS 3 = true := by decide +kernel
theorem x11 : rising exT 2 = false := by decide +kernel
end Ma
/-- what works has at hand: the labels, the samples, from some time on the matcher and a sample -/
structure WkIn (w : World) (W : World) : Prop where
  bel : Below w.heap.size w W
  lab : LabRow W (some ⟨w.heap.size, 0, none⟩) 1 Ma.exL
  sam : Row 2 (sx Ma.exS) W (some ⟨w.heap.size + 1, 0, none⟩) 3
theorem WkIn.later {w W W2 : World} (h : WkIn w W) (hb : Below W.heap.size W W2) : WkIn w W2 := ⟨h.bel.trans (hb.mono h.bel.size), h.lab.later hb, h.sam.later hb⟩
theorem WkIn.start (w : World) : WkIn w ((w.alloc (.cells #[.string ⟨#[97]⟩, .string ⟨#[120, 121]⟩] 49)).alloc (.cells #[.int .i64 1, .int .u64 0, .int .i64 3, .int .u64 0, .int .i64 5, .int .u64 0] 52)) := by
  have h := f_two_heap w (.cells #[.string ⟨#[97]⟩, .string ⟨#[120, 121]⟩] 49) (.cells #[.int .i64 1, .int .u64 0, .int .i64 3, .int .u64 0, .int .i64 5, .int .u64 0] 52)
  obtain ⟨h0, h1, hz, _, hg⟩ := h
  refine ⟨(Below.refl _ _).grown hg (Nat.le_refl _) (fun r e => by cases e), fun _ => ⟨_, rfl, by show w.heap.size < _; omega, fun i hi => ?_⟩, fun _ => ⟨_, rfl, by show w.heap.size + 1 < _; omega, fun i hi j hj => ?_⟩⟩
  · obtain rfl : i = 0 := by omega
    exact ⟨cell_of_row _ _ 0 _ _ _ h0, cell_of_row _ _ 1 _ _ _ h0⟩
  · rcases (show i = 0 ∨ i = 1 ∨ i = 2 by omega) with rfl | rfl | rfl <;> rcases (show j = 0 ∨ j = 1 by omega) with rfl | rfl
    · exact cell_of_row _ _ 0 _ _ _ h1
    · exact cell_of_row _ _ 1 _ _ _ h1
    · exact cell_of_row _ _ 2 _ _ _ h1
    · exact cell_of_row _ _ 3 _ _ _ h1
    · exact cell_of_row _ _ 4 _ _ _ h1
    · exact cell_of_row _ _ 5 _ _ _ h1
set_option maxRecDepth 100000 in
set_option maxHeartbeats 4000000 in
theorem works_any (w : World) :
    Calls Try.prog 10 #[] w fun e w' => e = .returned (.bool true) ∧ Below w.heap.size w w' := by
  have hl : 1 ≤ 1000000 := by omega
  have C1 : Hid (∀ W, Calls Try.prog 28 #[.agg #[.int .i64 0, .string ⟨#[97]⟩, .string ⟨#[120, 121]⟩]] W fun e w' => e = .returned (.tuple #[.agg #[.int .i64 1, .string ⟨#[97]⟩, .string ⟨#[120, 121]⟩], .bool true]) ∧ Below W.heap.size W w') := Lib.hid (fun W => Not_any ⟨0, ⟨#[97]⟩, ⟨#[120, 121]⟩⟩ W)
  have C2 : Hid (∀ W, WkIn w W → Calls Try.prog 22 #[.slice (some ⟨w.heap.size + 1, 0, none⟩) 3 3, .int .i64 2, .int .i64 5] W (Picks 52 2 (fun i => [sx Ma.exS i 0, sx Ma.exS i 1]) (Ma.sel (fun i => Ma.inT 2 5 (Ma.exS i).t) 3) W)) := Lib.hid (fun W h => Between_any _ 3 3 (by omega) Ma.exS 2 5 W h.sam)
  have C3 : Hid (∀ W, WkIn w W → Calls Try.prog 23 #[.slice (some ⟨w.heap.size + 1, 0, none⟩) 3 3, .int .i64 2, .int .i64 5] W (Picks 52 2 (fun i => [sx Ma.exS i 0, sx Ma.exS i 1]) (Ma.sel (fun i => !Ma.inT 2 5 (Ma.exS i).t) 3) W)) := Lib.hid (fun W h => Without_any _ 3 3 (by omega) Ma.exS 2 5 W h.sam)
  have C4 : Hid (∀ W, WkIn w W → Calls Try.prog 16 #[.agg #[.int .i64 0, .string ⟨#[98]⟩, .string ByteArray.empty], .slice (some ⟨w.heap.size, 0, none⟩) 1 1] W fun e w' => e = .returned (.bool true) ∧ Below W.heap.size W w') := Lib.hid (fun W h => by have := Fits_any ⟨0, ⟨#[98]⟩, ByteArray.empty⟩ _ 1 1 hl Ma.exL W h.lab; rw [Ma.x1] at this; exact this)
  have C5 : Hid (∀ W, WkIn w W → Calls Try.prog 16 #[.agg #[.int .i64 2, .string ⟨#[97]⟩, .string ⟨#[120]⟩], .slice (some ⟨w.heap.size, 0, none⟩) 1 1] W fun e w' => e = .returned (.bool true) ∧ Below W.heap.size W w') := Lib.hid (fun W h => by have := Fits_any ⟨2, ⟨#[97]⟩, ⟨#[120]⟩⟩ _ 1 1 hl Ma.exL W h.lab; rw [Ma.x2] at this; exact this)
  have C6 : Hid (∀ W, WkIn w W → Calls Try.prog 16 #[.agg #[.int .i64 1, .string ⟨#[97]⟩, .string ⟨#[120, 121]⟩], .slice (some ⟨w.heap.size, 0, none⟩) 1 1] W fun e w' => e = .returned (.bool false) ∧ Below W.heap.size W w') := Lib.hid (fun W h => by have := Fits_any Ma.exM _ 1 1 hl Ma.exL W h.lab; rw [Ma.x3] at this; exact this)
  have C7 : Hid (∀ W, WkIn w W → Calls Try.prog 14 #[.slice none 0 0, .slice (some ⟨w.heap.size, 0, none⟩) 1 1] W fun e w' => e = .returned (.bool true) ∧ Below W.heap.size W w') := Lib.hid (fun W h => by have := All_any none 0 0 (by omega) Ma.exD _ 1 1 hl Ma.exL W Row.none h.lab; rw [Ma.x6] at this; exact this)
  have C8 : Hid (∀ W, Calls Try.prog 18 #[.slice none 0 0] W fun e w' => e = .returned (.int .i64 0) ∧ Below W.heap.size W w') := Lib.hid (fun W => by have := MCheck_any none 0 0 (by omega) Ma.exD (fun i hi => by omega) W Row.none; rw [Ma.x7] at this; exact this)
  have C9 : Hid (∀ W : World, Calls Try.prog 18 #[.slice (some ⟨W.heap.size, 0, none⟩) 1 1] (W.alloc (.cells #[.int .i64 4, .string ⟨#[97]⟩, .string ByteArray.empty] 32)) fun e w' => e = .returned (.int .i64 1) ∧ Below (W.alloc (.cells #[.int .i64 4, .string ⟨#[97]⟩, .string ByteArray.empty] 32)).heap.size (W.alloc (.cells #[.int .i64 4, .string ⟨#[97]⟩, .string ByteArray.empty] 32)) w') := Lib.hid (fun W => by
    have hr : Row 3 (mx Ma.exD) (W.alloc (.cells #[.int .i64 4, .string ⟨#[97]⟩, .string ByteArray.empty] 32)) (some ⟨W.heap.size, 0, none⟩) 1 := fun _ => by
      have hc := heap_alloc_new W (.cells #[.int .i64 4, .string ⟨#[97]⟩, .string ByteArray.empty] 32)
      refine ⟨_, rfl, by simp, fun i hi j hj => ?_⟩
      obtain rfl : i = 0 := by omega
      rcases (show j = 0 ∨ j = 1 ∨ j = 2 by omega) with rfl | rfl | rfl
      · exact cell_of_row _ _ 0 _ _ _ hc
      · exact cell_of_row _ _ 1 _ _ _ hc
      · exact cell_of_row _ _ 2 _ _ _ hc
    have := MCheck_any _ 1 1 hl Ma.exD (fun i hi => by unfold Ma.exD maxLen; exact ⟨by decide, by decide⟩) _ hr
    rw [Ma.x8] at this; exact this)
  have C10 : Hid (∀ W : World, WkIn w W → Calls Try.prog 20 #[.slice none 0 0, .slice (some ⟨W.heap.size, 0, none⟩) 1 1] (W.alloc (.cells #[.slice (some ⟨w.heap.size, 0, none⟩) 1 1] 28)) (Picks 3 1 (fun i => [.int .i64 (i : Int)]) (Ma.sel (fun _ => Ma.all Ma.exD 0 Ma.exL 1) 1) (W.alloc (.cells #[.slice (some ⟨w.heap.size, 0, none⟩) 1 1] 28)))) := Lib.hid (fun W h => by
    have hr : Row 1 (lx (fun _ => some ⟨w.heap.size, 0, none⟩) (fun _ => 1) (fun _ => 1)) (W.alloc (.cells #[.slice (some ⟨w.heap.size, 0, none⟩) 1 1] 28)) (some ⟨W.heap.size, 0, none⟩) 1 := fun _ => by
      have hc := heap_alloc_new W (.cells #[.slice (some ⟨w.heap.size, 0, none⟩) 1 1] 28)
      refine ⟨_, rfl, by simp, fun i hi j hj => ?_⟩
      obtain rfl : i = 0 := by omega
      obtain rfl : j = 0 := by omega
      exact cell_of_row _ _ 0 _ _ _ hc
    exact Select_any none 0 0 (by omega) Ma.exD _ 1 1 hl _ _ _ (fun _ => Ma.exL) (fun i hi => hl) _ Row.none hr (fun i hi => h.lab.later ((Below.refl _ _).alloc (Nat.le_refl _) _)))
  have C11 : Hid (∀ W, WkIn w W → Calls Try.prog 26 #[.slice (some ⟨w.heap.size + 1, 0, none⟩) 3 3] W fun e w' => e = .returned (.bool true) ∧ DrewOf W w') := Lib.hid (fun W h => by have := Sorted_any _ 3 3 (by omega) Ma.exS W h.sam; rw [Ma.x10] at this; exact this)
  have C12 : Hid (∀ W : World, Calls Try.prog 26 #[.slice (some ⟨W.heap.size, 0, none⟩) 2 2] (W.alloc (.cells #[.int .i64 1, .int .u64 0, .int .i64 1, .int .u64 0] 52)) fun e w' => e = .returned (.bool false) ∧ DrewOf (W.alloc (.cells #[.int .i64 1, .int .u64 0, .int .i64 1, .int .u64 0] 52)) w') := Lib.hid (fun W => by
    have hr : Row 2 (sx Ma.exT) (W.alloc (.cells #[.int .i64 1, .int .u64 0, .int .i64 1, .int .u64 0] 52)) (some ⟨W.heap.size, 0, none⟩) 2 := fun _ => by
      have hc := heap_alloc_new W (.cells #[.int .i64 1, .int .u64 0, .int .i64 1, .int .u64 0] 52)
      refine ⟨_, rfl, by simp, fun i hi j hj => ?_⟩
      rcases (show i = 0 ∨ i = 1 by omega) with rfl | rfl <;> rcases (show j = 0 ∨ j = 1 by omega) with rfl | rfl
      · exact cell_of_row _ _ 0 _ _ _ hc
      · exact cell_of_row _ _ 1 _ _ _ hc
      · exact cell_of_row _ _ 2 _ _ _ hc
      · exact cell_of_row _ _ 3 _ _ _ hc
    have := Sorted_any _ 2 2 (by omega) Ma.exT _ hr
    rw [Ma.x11] at this; exact this)
  have hal : ∀ (W : World) (o : Obj), Below W.heap.size W (W.alloc o) := fun W o => (Below.refl _ _).alloc (Nat.le_refl _) _
  have HAL := Lib.hid hal; clear hal
  have S1 := Lib.hid (WkIn.start w)
  go_enter Try.func10, Try.ntmps10
  go_wp2_with fail
  refine (C1.out _).mono ?_; rintro e w2 ⟨rfl, hb2⟩
  have S2 := Lib.hid (S1.out.later hb2); clear hb2 S1
  go_upto_region 4 with fail
  have hn0 := heap_alloc_new w2 (.cells #[.int .i64 1, .string ⟨#[97]⟩, .string ⟨#[120, 121]⟩] 32)
  have S3 := Lib.hid (S2.out.later (HAL.out w2 (.cells #[.int .i64 1, .string ⟨#[97]⟩, .string ⟨#[120, 121]⟩] 32)))
  generalize w2.alloc (.cells #[.int .i64 1, .string ⟨#[97]⟩, .string ⟨#[120, 121]⟩] 32) = w3 at *
  generalize w2.heap.size = gn at *
  have HN3 := Lib.hid hn0; clear hn0 S2
  go_wp2_with fail
  refine (C2.out _ S3.out).mono ?_; rintro e w4 ⟨v4, rfl, ho4, hb4⟩
  rw [Ma.x4] at ho4
  obtain ⟨A4, c4, rfl⟩ := own_formk ho4
  have S4 := Lib.hid (S3.out.later hb4); have HN4 := Lib.hid (heap_keep HN3.out hb4); clear hb4 ho4 S3 HN3
  go_wp2_with fail
  refine (C3.out _ S4.out).mono ?_; rintro e w5 ⟨v5, rfl, ho5, hb5⟩
  rw [Ma.x5] at ho5
  obtain ⟨g5, c5, rfl⟩ := ownsRow_succ ho5
  have S5 := Lib.hid (S4.out.later hb5); have HN5 := Lib.hid (heap_keep HN4.out hb5)
  have HW5 : Hid (w5.cell? ⟨g5, 0, none⟩ = some (.int .i64 1)) := Lib.hid (ho5.cells (g := g5) rfl 0 _ rfl)
  clear hb5 ho5 S4 HN4
  go_wp2_with fail
  refine (C4.out _ S5.out).mono ?_; rintro e w6 ⟨rfl, hb6⟩
  have S6 := Lib.hid (S5.out.later hb6); have HN6 := Lib.hid (heap_keep HN5.out hb6); have HW6 := Lib.hid (cell_keep HW5.out hb6); clear hb6 S5 HN5 HW5
  go_wp2_with fail
  refine (C5.out _ S6.out).mono ?_; rintro e w7 ⟨rfl, hb7⟩
  have S7 := Lib.hid (S6.out.later hb7); have HN7 := Lib.hid (heap_keep HN6.out hb7); have HW7 := Lib.hid (cell_keep HW6.out hb7); clear hb7 S6 HN6 HW6
  have n0 := cell_of_row _ _ 0 _ _ _ HN7.out
  have n1 := cell_of_row _ _ 1 _ _ _ HN7.out
  have n2 := cell_of_row _ _ 2 _ _ _ HN7.out
  simp at n0 n1 n2
  go_wp2_with fail
  refine (C6.out _ S7.out).mono ?_; rintro e w8 ⟨rfl, hb8⟩
  have S8 := Lib.hid (S7.out.later hb8); have HW8 := Lib.hid (cell_keep HW7.out hb8); clear hb8 S7 HN7 HW7 n0 n1 n2
  go_wp2_with fail
  refine (C7.out _ S8.out).mono ?_; rintro e w9 ⟨rfl, hb9⟩
  have S9 := Lib.hid (S8.out.later hb9); have HW9 := Lib.hid (cell_keep HW8.out hb9); clear hb9 S8 HW8
  go_wp2_with fail
  refine (C8.out _).mono ?_; rintro e w10 ⟨rfl, hb10⟩
  have S10 := Lib.hid (S9.out.later hb10); have HW10 := Lib.hid (cell_keep HW9.out hb10); clear hb10 S9 HW9
  go_wp2_with fail
  refine (C9.out _).mono ?_; rintro e w11 ⟨rfl, hb11⟩
  have S11 := Lib.hid ((S10.out.later (HAL.out _ _)).later hb11); have HW11 := Lib.hid (cell_keep (cell_keep HW10.out (HAL.out _ _)) hb11); clear hb11 S10 HW10
  go_wp2_with fail
  refine (C10.out _ S11.out).mono ?_; rintro e w12 ⟨v12, rfl, ho12, hb12⟩
  rw [Ma.x9] at ho12
  obtain ⟨A12, c12, rfl⟩ := own_formk ho12
  have S12 := Lib.hid ((S11.out.later (HAL.out _ _)).later hb12); have HW12 := Lib.hid (cell_keep (cell_keep HW11.out (HAL.out _ _)) hb12); clear hb12 ho12 S11 HW11
  have e0 := HW12.out
  go_wp2_with fail
  refine (C11.out _ S12.out).mono ?_; rintro e w13 ⟨rfl, hd13⟩
  have hb13 : Below w12.heap.size w12 w13 := (Below.refl _ _).grown (hd13.grown none) (Nat.le_refl _) (fun r e => by cases e)
  have S13 := Lib.hid (S12.out.later hb13); clear hb13 hd13 S12 HW12 e0
  go_wp2_with fail
  refine (C12.out _).mono ?_; rintro e w14 ⟨rfl, hd14⟩
  have hb14 := (Below.refl _ _).grown (hd14.grown none) (Nat.le_refl _) (fun r e => by cases e)
  have S14 := Lib.hid ((S13.out.later (HAL.out _ _)).later hb14); clear hb14 hd14 S13
  go_wp2_with fail
  go_ret
  exact ⟨rfl, S14.out.bel⟩
end Go.Proofs.Ytcdlkiephdghlaa
