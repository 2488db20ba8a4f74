/-
  What works of the laws of frame comes to; texts.
-/
import Derived.Test.YteohhcnadoaciaaFrJ
import Derived.Test.YteohhcnadoaciaaFrG
namespace Go.Proofs.Yteohhcnadoaciaa
open Go.RowKit
namespace Fr
theorem ex1 : put ⟨#[97]⟩ = ⟨#[1, 97, 196, 255, 110, 113]⟩ := by decide +kernel
theorem ex2 : get (⟨#[1, 97, 196, 255, 110, 113]⟩ ++ ⟨#[122]⟩) 9 = (⟨#[97]⟩, ⟨#[122]⟩, 0) := by decide +kernel
theorem ex3 : get (ByteArray.extract ⟨#[1, 97, 196, 255, 110, 113]⟩ 0 3) 9 = (ByteArray.empty, ⟨#[1, 97, 196]⟩, 1) := by decide +kernel
theorem ex4 : get ⟨#[1, 97, 196, 255, 110, 113]⟩ 0 = (ByteArray.empty, ⟨#[1, 97, 196, 255, 110, 113]⟩, 2) := by decide +kernel
theorem ex5 : all (⟨#[1, 97, 196, 255, 110, 113]⟩ ++ ⟨#[1, 97, 196, 255, 110, 113]⟩) 9 = ([⟨#[97]⟩, ⟨#[97]⟩], ByteArray.empty) := by decide +kernel
theorem ex6 : head ⟨#[65, 66]⟩ 2 1 = ⟨#[65, 66, 2, 1, 161, 223, 160, 99]⟩ := by decide +kernel
theorem ex7 : head ⟨#[65, 66]⟩ 4 0 = ⟨#[65, 66, 4, 0, 144, 13, 4, 248]⟩ := by decide +kernel
theorem ex8 : head ⟨#[65, 66]⟩ 1 4 = ⟨#[65, 66, 1, 4, 36, 99, 182, 98]⟩ := by decide +kernel
theorem ex9 : opened (⟨#[65, 66, 2, 1, 161, 223, 160, 99]⟩ ++ ⟨#[120]⟩) ⟨#[65, 66]⟩ = (2, 1, ⟨#[120]⟩, 0) := by decide +kernel
theorem ex10 : opened ⟨#[65, 66, 4, 0, 144, 13, 4, 248]⟩ ⟨#[65, 66]⟩ = (0, 0, ByteArray.empty, 10) := by decide +kernel
theorem ex11 : opened ⟨#[65, 66, 1, 4, 36, 99, 182, 98]⟩ ⟨#[65, 66]⟩ = (0, 0, ByteArray.empty, 10) := by decide +kernel
theorem ex12 : shape ByteArray.empty 9 = 0 := rfl
end Fr

theorem Split_ex (w : World) : Calls Try.prog 16 #[.string (⟨#[1, 97, 196, 255, 110, 113]⟩ ++ ⟨#[1, 97, 196, 255, 110, 113]⟩), .int .i64 9] w fun e w' =>
    (∃ A c, e = .returned (.tuple #[.slice A 2 c, .int .i64 12, .int .i64 0])) ∧ Below w.heap.size w w' := by
  refine (Split_any _ (by decide) 9 (Lib.hid (by decide)) w).mono ?_
  rintro e w2 ⟨v, rfl, h1, h2⟩
  rw [Fr.ex5] at h1 ⊢
  refine ⟨?_, h2⟩
  rcases h1.2 with ⟨rfl, h0⟩ | ⟨g, cap, _, rfl, _⟩
  · cases h0
  · exact ⟨_, _, rfl⟩

set_option maxRecDepth 100000 in
set_option maxHeartbeats 1000000 in
theorem works_any (w : World) :
    Calls Try.prog 9 #[] w fun e w' => e = .returned (.bool true) ∧ Below w.heap.size w w' := by
  go_enter Try.func9, Try.ntmps9
  have HB0 := Lib.hid (Below.refl w.heap.size w)
  go_wp2_with fail
  refine (Put_any _ (by decide) _).mono ?_; rintro e w1 ⟨rfl, hb1⟩; have HB1 := Lib.hid (below_step HB0.out hb1); clear hb1 HB0; rw [Fr.ex1]
  go_wp2_with fail
  refine (Get_any _ (by decide) 9 (Lib.hid (by decide)) _).mono ?_; rintro e w2 ⟨rfl, hb2⟩; have HB2 := Lib.hid (below_step HB1.out hb2); clear hb2 HB1; rw [Fr.ex2]
  go_wp2_with fail
  refine (Get_any _ (by decide) 9 (Lib.hid (by decide)) _).mono ?_; rintro e w3 ⟨rfl, hb3⟩; have HB3 := Lib.hid (below_step HB2.out hb3); clear hb3 HB2; rw [Fr.ex3]
  go_wp2_with fail
  refine (Get_any _ (by decide) 0 (Lib.hid (by decide)) _).mono ?_; rintro e w4 ⟨rfl, hb4⟩; have HB4 := Lib.hid (below_step HB3.out hb4); clear hb4 HB3; rw [Fr.ex4]
  go_wp2_with fail
  refine (Split_ex _).mono ?_; rintro e w5 ⟨⟨A5, c5, rfl⟩, hb5⟩; have HB5 := Lib.hid (below_step HB4.out hb5); clear hb5 HB4
  go_wp2_with fail
  refine (Head_any _ (by decide) 2 1 _).mono ?_; rintro e w6 ⟨rfl, hb6⟩; have HB6 := Lib.hid (below_step HB5.out hb6); clear hb6 HB5; rw [Fr.ex6]
  go_wp2_with fail
  refine (Open_any _ (by decide) _ (by decide) _).mono ?_; rintro e w7 ⟨rfl, hb7⟩; have HB7 := Lib.hid (below_step HB6.out hb7); clear hb7 HB6; rw [Fr.ex9]
  go_wp2_with fail
  refine (Head_any _ (by decide) 4 0 _).mono ?_; rintro e w8 ⟨rfl, hb8⟩; have HB8 := Lib.hid (below_step HB7.out hb8); clear hb8 HB7; rw [Fr.ex7]
  go_wp2_with fail
  refine (Open_any _ (by decide) _ (by decide) _).mono ?_; rintro e w9 ⟨rfl, hb9⟩; have HB9 := Lib.hid (below_step HB8.out hb9); clear hb9 HB8; rw [Fr.ex10]
  go_wp2_with fail
  refine (Head_any _ (by decide) 1 4 _).mono ?_; rintro e w10 ⟨rfl, hb10⟩; have HB10 := Lib.hid (below_step HB9.out hb10); clear hb10 HB9; rw [Fr.ex8]
  go_wp2_with fail
  refine (Open_any _ (by decide) _ (by decide) _).mono ?_; rintro e w11 ⟨rfl, hb11⟩; have HB11 := Lib.hid (below_step HB10.out hb11); clear hb11 HB10; rw [Fr.ex11]
  go_wp2_with fail
  refine plain_held (fun _ => True) (by kernel_rfl) ?_
  have hbd : Below w.heap.size w w11.drew := Below.drew HB11.out
  generalize w11.drew = wd at *
  have HBD := Lib.hid hbd; clear hbd HB11
  refine wpAnyH_pickQ (by kernel_rfl) Only.panic Only.keepsIn (w := wd) trivial [0, 1, 2, 3, 4, 5] 62 _ _ (by kernel_rfl) ?_
  refine PickQ.value (d := (some 82)) (.string ⟨#[1, 97, 196, 255, 110, 113]⟩) rfl rfl (by kernel_rfl) (fun U hU => (by kernel_rfl)) ?_
  refine PickQ.value (d := (some 83)) (.int .i64 6) rfl rfl (by kernel_rfl) (fun U hU => (by kernel_rfl)) ?_
  refine PickQ.value (d := (some 84)) (.bool true) rfl rfl (by kernel_rfl) (fun U hU => (by kernel_rfl)) ?_
  refine PickQ.value (d := (some 85)) (.bool true) rfl rfl (by kernel_rfl) (fun U hU => (by kernel_rfl)) ?_
  refine PickQ.value (d := (some 86)) (.string ⟨#[1, 97, 196, 255, 110, 113]⟩) rfl rfl (by kernel_rfl) (fun U hU => (by kernel_rfl)) ?_
  refine PickQ.value (d := (some 87)) (.string ⟨#[1, 97]⟩) rfl rfl (by kernel_rfl) (fun U hU => (by kernel_rfl)) ?_
  simp only [PickQ, Act.put, List.setIfInBounds_toArray, List.set_cons_zero, List.set_cons_succ]
  refine wpAnyH_one (i := 6) (by kernel_rfl) rfl (by kernel_rfl) ?_
  intro K hK
  unfold Oper.wp
  go_simp
  refine hK _ _ trivial (fun _ => ?_)
  clear hK K
  have hcv := arr_take (P := Try.prog) _ wd.heap.size 39 5 9 5 [1, 97] Try.underlying39 Try.underlying5 Try.underlying9 (heap_alloc_new wd _) 2 2 (by decide)
  have hcv2 : (convert 39 9 (.slice (some ⟨wd.heap.size, 0, none⟩) 2 2)).run Try.prog (wd.alloc (.cells #[.int .u8 1, .int .u8 97] 5)) = .ok (.string ⟨#[1, 97]⟩) (wd.alloc (.cells #[.int .u8 1, .int .u8 97] 5)) := hcv
  clear hcv
  have hal : Below w.heap.size w (wd.alloc (.cells #[.int .u8 1, .int .u8 97] 5)) := HBD.out.alloc HBD.out.size _
  have HAL := Lib.hid hal; clear hal
  generalize wd.alloc (.cells #[.int .u8 1, .int .u8 97] 5) = we at *
  refine wpAnyH_one (i := 7) (by kernel_rfl) rfl (by kernel_rfl) ?_
  intro K hK
  unfold Oper.wp
  go_simp
  refine hK _ _ trivial (fun _ => ?_)
  clear hK K hcv2
  refine wpAnyH_pickQ (by kernel_rfl) Only.panic Only.keepsIn (w := we) trivial [8, 9, 10, 11, 12, 13, 14, 15, 16, 17, 18, 19, 20, 21, 22, 23, 24, 25, 26, 27, 28, 29, 30, 31, 32, 33, 34, 35, 36, 37, 38, 39, 40, 41, 42, 43, 44, 45, 46, 47, 48, 49, 50, 51, 52, 53, 54, 55, 56, 57, 58, 59, 60, 61, 62, 63, 64, 65, 66, 67] 0 _ _ (by kernel_rfl) ?_
  refine PickQ.value (d := (some 90)) (.bool true) rfl rfl (by kernel_rfl) (fun U hU => (by kernel_rfl)) ?_
  refine PickQ.value (d := (some 91)) (.bool true) rfl rfl (by kernel_rfl) (fun U hU => (by kernel_rfl)) ?_
  refine PickQ.value (d := (some 92)) (.bool true) rfl rfl (by kernel_rfl) (fun U hU => (by kernel_rfl)) ?_
  refine PickQ.value (d := (some 93)) (.string ⟨#[97]⟩) rfl rfl (by kernel_rfl) (fun U hU => (by kernel_rfl)) ?_
  refine PickQ.value (d := (some 94)) (.bool true) rfl rfl (by kernel_rfl) (fun U hU => (by kernel_rfl)) ?_
  refine PickQ.value (d := (some 95)) (.bool true) rfl rfl (by kernel_rfl) (fun U hU => (by kernel_rfl)) ?_
  refine PickQ.value (d := (some 96)) (.bool true) rfl rfl (by kernel_rfl) (fun U hU => (by kernel_rfl)) ?_
  refine PickQ.value (d := (some 97)) (.string ⟨#[122]⟩) rfl rfl (by kernel_rfl) (fun U hU => (by kernel_rfl)) ?_
  refine PickQ.value (d := (some 98)) (.bool true) rfl rfl (by kernel_rfl) (fun U hU => (by kernel_rfl)) ?_
  refine PickQ.value (d := (some 99)) (.bool true) rfl rfl (by kernel_rfl) (fun U hU => (by kernel_rfl)) ?_
  refine PickQ.value (d := (some 100)) (.bool true) rfl rfl (by kernel_rfl) (fun U hU => (by kernel_rfl)) ?_
  refine PickQ.value (d := (some 101)) (.int .i64 0) rfl rfl (by kernel_rfl) (fun U hU => (by kernel_rfl)) ?_
  refine PickQ.value (d := (some 102)) (.bool true) rfl rfl (by kernel_rfl) (fun U hU => (by kernel_rfl)) ?_
  refine PickQ.value (d := (some 103)) (.bool true) rfl rfl (by kernel_rfl) (fun U hU => (by kernel_rfl)) ?_
  refine PickQ.value (d := (some 104)) (.bool true) rfl rfl (by kernel_rfl) (fun U hU => (by kernel_rfl)) ?_
  refine PickQ.value (d := (some 105)) (.int .i64 1) rfl rfl (by kernel_rfl) (fun U hU => (by kernel_rfl)) ?_
  refine PickQ.value (d := (some 106)) (.bool true) rfl rfl (by kernel_rfl) (fun U hU => (by kernel_rfl)) ?_
  refine PickQ.value (d := (some 107)) (.bool true) rfl rfl (by kernel_rfl) (fun U hU => (by kernel_rfl)) ?_
  refine PickQ.value (d := (some 108)) (.bool true) rfl rfl (by kernel_rfl) (fun U hU => (by kernel_rfl)) ?_
  refine PickQ.value (d := (some 109)) (.int .i64 2) rfl rfl (by kernel_rfl) (fun U hU => (by kernel_rfl)) ?_
  refine PickQ.value (d := (some 110)) (.bool true) rfl rfl (by kernel_rfl) (fun U hU => (by kernel_rfl)) ?_
  refine PickQ.value (d := (some 111)) (.bool true) rfl rfl (by kernel_rfl) (fun U hU => (by kernel_rfl)) ?_
  refine PickQ.value (d := (some 112)) (.bool true) rfl rfl (by kernel_rfl) (fun U hU => (by kernel_rfl)) ?_
  refine PickQ.value (d := (some 113)) (.slice A5 2 c5) rfl rfl (by kernel_rfl) (fun U hU => (by kernel_rfl)) ?_
  refine PickQ.value (d := (some 114)) (.int .i64 2) rfl rfl (by kernel_rfl) (fun U hU => (by kernel_rfl)) ?_
  refine PickQ.value (d := (some 115)) (.bool true) rfl rfl (by kernel_rfl) (fun U hU => (by kernel_rfl)) ?_
  refine PickQ.value (d := (some 116)) (.bool true) rfl rfl (by kernel_rfl) (fun U hU => (by kernel_rfl)) ?_
  refine PickQ.value (d := (some 117)) (.bool true) rfl rfl (by kernel_rfl) (fun U hU => (by kernel_rfl)) ?_
  refine PickQ.value (d := (some 118)) (.int .i64 12) rfl rfl (by kernel_rfl) (fun U hU => (by kernel_rfl)) ?_
  refine PickQ.value (d := (some 119)) (.bool true) rfl rfl (by kernel_rfl) (fun U hU => (by kernel_rfl)) ?_
  refine PickQ.value (d := (some 120)) (.bool true) rfl rfl (by kernel_rfl) (fun U hU => (by kernel_rfl)) ?_
  refine PickQ.value (d := (some 121)) (.bool true) rfl rfl (by kernel_rfl) (fun U hU => (by kernel_rfl)) ?_
  refine PickQ.value (d := (some 122)) (.int .i64 0) rfl rfl (by kernel_rfl) (fun U hU => (by kernel_rfl)) ?_
  refine PickQ.value (d := (some 123)) (.bool true) rfl rfl (by kernel_rfl) (fun U hU => (by kernel_rfl)) ?_
  refine PickQ.value (d := (some 124)) (.bool true) rfl rfl (by kernel_rfl) (fun U hU => (by kernel_rfl)) ?_
  refine PickQ.value (d := (some 125)) (.bool true) rfl rfl (by kernel_rfl) (fun U hU => (by kernel_rfl)) ?_
  refine PickQ.value (d := (some 126)) (.int .i64 2) rfl rfl (by kernel_rfl) (fun U hU => (by kernel_rfl)) ?_
  refine PickQ.value (d := (some 127)) (.bool true) rfl rfl (by kernel_rfl) (fun U hU => (by kernel_rfl)) ?_
  refine PickQ.value (d := (some 128)) (.bool true) rfl rfl (by kernel_rfl) (fun U hU => (by kernel_rfl)) ?_
  refine PickQ.value (d := (some 129)) (.bool true) rfl rfl (by kernel_rfl) (fun U hU => (by kernel_rfl)) ?_
  refine PickQ.value (d := (some 130)) (.int .i64 1) rfl rfl (by kernel_rfl) (fun U hU => (by kernel_rfl)) ?_
  refine PickQ.value (d := (some 131)) (.bool true) rfl rfl (by kernel_rfl) (fun U hU => (by kernel_rfl)) ?_
  refine PickQ.value (d := (some 132)) (.bool true) rfl rfl (by kernel_rfl) (fun U hU => (by kernel_rfl)) ?_
  refine PickQ.value (d := (some 133)) (.bool true) rfl rfl (by kernel_rfl) (fun U hU => (by kernel_rfl)) ?_
  refine PickQ.value (d := (some 134)) (.string ⟨#[120]⟩) rfl rfl (by kernel_rfl) (fun U hU => (by kernel_rfl)) ?_
  refine PickQ.value (d := (some 135)) (.bool true) rfl rfl (by kernel_rfl) (fun U hU => (by kernel_rfl)) ?_
  refine PickQ.value (d := (some 136)) (.bool true) rfl rfl (by kernel_rfl) (fun U hU => (by kernel_rfl)) ?_
  refine PickQ.value (d := (some 137)) (.bool true) rfl rfl (by kernel_rfl) (fun U hU => (by kernel_rfl)) ?_
  refine PickQ.value (d := (some 138)) (.int .i64 0) rfl rfl (by kernel_rfl) (fun U hU => (by kernel_rfl)) ?_
  refine PickQ.value (d := (some 139)) (.bool true) rfl rfl (by kernel_rfl) (fun U hU => (by kernel_rfl)) ?_
  refine PickQ.value (d := (some 140)) (.bool true) rfl rfl (by kernel_rfl) (fun U hU => (by kernel_rfl)) ?_
  refine PickQ.value (d := (some 141)) (.bool true) rfl rfl (by kernel_rfl) (fun U hU => (by kernel_rfl)) ?_
  refine PickQ.value (d := (some 142)) (.int .i64 10) rfl rfl (by kernel_rfl) (fun U hU => (by kernel_rfl)) ?_
  refine PickQ.value (d := (some 143)) (.bool true) rfl rfl (by kernel_rfl) (fun U hU => (by kernel_rfl)) ?_
  refine PickQ.value (d := (some 144)) (.bool true) rfl rfl (by kernel_rfl) (fun U hU => (by kernel_rfl)) ?_
  refine PickQ.value (d := (some 145)) (.bool true) rfl rfl (by kernel_rfl) (fun U hU => (by kernel_rfl)) ?_
  refine PickQ.value (d := (some 146)) (.int .i64 10) rfl rfl (by kernel_rfl) (fun U hU => (by kernel_rfl)) ?_
  refine PickQ.value (d := (some 147)) (.bool true) rfl rfl (by kernel_rfl) (fun U hU => (by kernel_rfl)) ?_
  refine PickQ.value (d := (some 148)) (.bool true) rfl rfl (by kernel_rfl) (fun U hU => (by kernel_rfl)) ?_
  refine PickQ.value (d := (some 0)) (.bool true) rfl rfl (by kernel_rfl) (fun U hU => (by kernel_rfl)) ?_
  simp only [PickQ, Act.put, List.setIfInBounds_toArray, List.set_cons_zero, List.set_cons_succ]
  refine wpAnyH_done (by kernel_rfl) ?_ _
  refine Only.next ?_
  go_wp2_with fail
  go_ret
  exact ⟨rfl, HAL.out⟩
end Go.Proofs.Yteohhcnadoaciaa
