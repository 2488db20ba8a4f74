/-
  What works of the laws of num comes to.
-/
import Derived.Test.YtkknagfeceljdaaNumG
namespace Go.Proofs.Ytkknagfeceljdaa
open Go.RowKit

namespace Num
theorem ex1 : smallB 300 = ⟨#[172, 2]⟩ := by decide +kernel
theorem ex2 : wideB 7 = ⟨#[7, 0, 0, 0, 0, 0, 0, 0]⟩ := by decide +kernel
theorem ex3 : smallB (ByteArray.size ⟨#[97, 98]⟩) ++ ⟨#[97, 98]⟩ = ⟨#[2, 97, 98]⟩ := by decide +kernel
theorem ex4 : fixedB ⟨#[99]⟩ (sz 3) = ⟨#[99, 0, 0, 1]⟩ := by decide +kernel
theorem ex5 : ((((⟨#[172, 2]⟩ : ByteArray) ++ ⟨#[7, 0, 0, 0, 0, 0, 0, 0]⟩) ++ ⟨#[2, 97, 98]⟩) ++ ⟨#[99, 0, 0, 1]⟩) ++ ⟨#[122]⟩ = ⟨#[172, 2, 7, 0, 0, 0, 0, 0, 0, 0, 2, 97, 98, 99, 0, 0, 1, 122]⟩ := by decide +kernel
theorem st1 : curV false ((decp 0 0 (ByteArray.data ⟨#[172, 2, 7, 0, 0, 0, 0, 0, 0, 0, 2, 97, 98, 99, 0, 0, 1, 122]⟩).toList).2.2) ((decp 0 0 (ByteArray.data ⟨#[172, 2, 7, 0, 0, 0, 0, 0, 0, 0, 2, 97, 98, 99, 0, 0, 1, 122]⟩).toList).1) 0 = 300 ∧ curV false ((decp 0 0 (ByteArray.data ⟨#[172, 2, 7, 0, 0, 0, 0, 0, 0, 0, 2, 97, 98, 99, 0, 0, 1, 122]⟩).toList).2.2) (ByteArray.extract ⟨#[172, 2, 7, 0, 0, 0, 0, 0, 0, 0, 2, 97, 98, 99, 0, 0, 1, 122]⟩ ((decp 0 0 (ByteArray.data ⟨#[172, 2, 7, 0, 0, 0, 0, 0, 0, 0, 2, 97, 98, 99, 0, 0, 1, 122]⟩).toList).2.1) (ByteArray.size ⟨#[172, 2, 7, 0, 0, 0, 0, 0, 0, 0, 2, 97, 98, 99, 0, 0, 1, 122]⟩)) ⟨#[172, 2, 7, 0, 0, 0, 0, 0, 0, 0, 2, 97, 98, 99, 0, 0, 1, 122]⟩ = ⟨#[7, 0, 0, 0, 0, 0, 0, 0, 2, 97, 98, 99, 0, 0, 1, 122]⟩ ∧ (false || !(decp 0 0 (ByteArray.data ⟨#[172, 2, 7, 0, 0, 0, 0, 0, 0, 0, 2, 97, 98, 99, 0, 0, 1, 122]⟩).toList).2.2) = false := by decide +kernel
theorem st2 : curV false ((decide (8 ≤ ByteArray.size ⟨#[7, 0, 0, 0, 0, 0, 0, 0, 2, 97, 98, 99, 0, 0, 1, 122]⟩))) (if decide (8 ≤ ByteArray.size ⟨#[7, 0, 0, 0, 0, 0, 0, 0, 2, 97, 98, 99, 0, 0, 1, 122]⟩) = true then num ((ByteArray.data ⟨#[7, 0, 0, 0, 0, 0, 0, 0, 2, 97, 98, 99, 0, 0, 1, 122]⟩).toList.take 8) else 0) 0 = 7 ∧ curV false ((decide (8 ≤ ByteArray.size ⟨#[7, 0, 0, 0, 0, 0, 0, 0, 2, 97, 98, 99, 0, 0, 1, 122]⟩))) (ByteArray.extract ⟨#[7, 0, 0, 0, 0, 0, 0, 0, 2, 97, 98, 99, 0, 0, 1, 122]⟩ (if decide (8 ≤ ByteArray.size ⟨#[7, 0, 0, 0, 0, 0, 0, 0, 2, 97, 98, 99, 0, 0, 1, 122]⟩) = true then 8 else 0) (ByteArray.size ⟨#[7, 0, 0, 0, 0, 0, 0, 0, 2, 97, 98, 99, 0, 0, 1, 122]⟩)) ⟨#[7, 0, 0, 0, 0, 0, 0, 0, 2, 97, 98, 99, 0, 0, 1, 122]⟩ = ⟨#[2, 97, 98, 99, 0, 0, 1, 122]⟩ ∧ (false || !(decide (8 ≤ ByteArray.size ⟨#[7, 0, 0, 0, 0, 0, 0, 0, 2, 97, 98, 99, 0, 0, 1, 122]⟩))) = false := by decide +kernel
theorem st3 : curV false ((xOk 5 ⟨#[2, 97, 98, 99, 0, 0, 1, 122]⟩)) (if xOk 5 ⟨#[2, 97, 98, 99, 0, 0, 1, 122]⟩ = true then xV ⟨#[2, 97, 98, 99, 0, 0, 1, 122]⟩ else ByteArray.empty) ByteArray.empty = ⟨#[97, 98]⟩ ∧ curV false ((xOk 5 ⟨#[2, 97, 98, 99, 0, 0, 1, 122]⟩)) (ByteArray.extract ⟨#[2, 97, 98, 99, 0, 0, 1, 122]⟩ (if xOk 5 ⟨#[2, 97, 98, 99, 0, 0, 1, 122]⟩ = true then xN ⟨#[2, 97, 98, 99, 0, 0, 1, 122]⟩ else 0) (ByteArray.size ⟨#[2, 97, 98, 99, 0, 0, 1, 122]⟩)) ⟨#[2, 97, 98, 99, 0, 0, 1, 122]⟩ = ⟨#[99, 0, 0, 1, 122]⟩ ∧ (false || !(xOk 5 ⟨#[2, 97, 98, 99, 0, 0, 1, 122]⟩)) = false := by decide +kernel
theorem st4 : curV false ((fAll (sz 3) ⟨#[99, 0, 0, 1, 122]⟩)) (fT (sz 3) ⟨#[99, 0, 0, 1, 122]⟩) ByteArray.empty = ⟨#[99]⟩ ∧ curV false ((fAll (sz 3) ⟨#[99, 0, 0, 1, 122]⟩)) (ByteArray.extract ⟨#[99, 0, 0, 1, 122]⟩ (fN (sz 3) ⟨#[99, 0, 0, 1, 122]⟩) (ByteArray.size ⟨#[99, 0, 0, 1, 122]⟩)) ⟨#[99, 0, 0, 1, 122]⟩ = ⟨#[122]⟩ ∧ (false || !(fAll (sz 3) ⟨#[99, 0, 0, 1, 122]⟩)) = false := by decide +kernel
theorem st5 : curV false ((tOk 1 ⟨#[122]⟩)) (if tOk 1 ⟨#[122]⟩ = true then ByteArray.extract ⟨#[122]⟩ 0 (Int.toNat 1) else ByteArray.empty) ByteArray.empty = ⟨#[122]⟩ ∧ curV false ((tOk 1 ⟨#[122]⟩)) (ByteArray.extract ⟨#[122]⟩ (if tOk 1 ⟨#[122]⟩ = true then Int.toNat 1 else 0) (ByteArray.size ⟨#[122]⟩)) ⟨#[122]⟩ = ByteArray.empty ∧ (false || !(tOk 1 ⟨#[122]⟩)) = false := by decide +kernel
theorem st6 : curV false ((tOk 1 ByteArray.empty)) (if tOk 1 ByteArray.empty = true then ByteArray.extract ByteArray.empty 0 (Int.toNat 1) else ByteArray.empty) ByteArray.empty = ByteArray.empty ∧ curV false ((tOk 1 ByteArray.empty)) (ByteArray.extract ByteArray.empty (if tOk 1 ByteArray.empty = true then Int.toNat 1 else 0) (ByteArray.size ByteArray.empty)) ByteArray.empty = ByteArray.empty ∧ (false || !(tOk 1 ByteArray.empty)) = true := by decide +kernel
theorem ex6 : zig (-1) = 1 := by decide +kernel
theorem ex7 : zag 1 = -1 := by decide +kernel
end Num

theorem region_any_gen {P : Program} {ops : Array Oper} {Q : Exit → Act → World → Prop} {id : Nat} {a : Act} {w : World} (hm : P.follows .mixedOrders = true)
    (h : ∀ R : Exit → Act → World → Prop, (∀ c (a : Act) d v w, R (.panic c) (a.put d v) w → R (.panic c) a w) → (∀ a w, Q .normal a w → R .normal a w) → wpAny P .any ops R ops.size (Array.replicate ops.size false) a w.drew) : (Code.region id ops true).wp P Q a w :=
  wp_region_noPanic (wp_region_any hm (h (NoPanic Q) (fun _ _ _ _ _ h => h) (fun _ _ h => NoPanic.normal h)))
theorem take_at {P : Program} {md : Region.Mode} {ops : Array Oper} {R : Exit → Act → World → Prop} {i : Nat} {oi : Oper} {d : Option Tmp} {v : Value} {fuel : Nat} {listed : Array Bool} {a : Act} {w : World} (hi : ops[i]? = some oi) (hd : oi.dst = d)
    (hs : Region.noSelect ops = true) (hf : Region.free md ops listed i = true) (hr : (Region.ready md ops listed).contains i = true)
    (hR : ∀ c (a : Act) d v w, R (.panic c) (a.put d v) w → R (.panic c) a w) (hw : Region.wanted oi (yielded ops a.tmps) = true) (hv : ∀ w, (execOp a.eval oi).run P w = .ok (.value v) w)
    (h : wpAny P md ops R fuel (listed.setIfInBounds i true) (a.put d v) w) : wpAny P md ops R (fuel + 1) listed a w := by
  subst hd
  exact wpAny_take hi hs hf hr (fun c a w h => hR c a _ _ w h) (Or.inl ⟨hw, hv⟩) h

set_option linter.unusedSimpArgs false in
set_option maxRecDepth 100000 in
set_option maxHeartbeats 4000000 in
theorem works_any (w : World) :
    Calls Try.prog 10 #[] w fun e w' => e = .returned (.bool true) ∧ Below w.heap.size w w' := by
  go_enter Try.func10, Try.ntmps10
  have HB0 := Lib.hid (Below.refl w.heap.size w)
  go_wp2_with fail
  refine (Small_any 300 (Lib.hid (by decide)) _).mono ?_; rintro e w1 ⟨rfl, hb1⟩; have HB1 := Lib.hid (below_step HB0.out hb1); clear hb1 HB0; rw [Num.ex1]
  go_wp2_with fail
  refine (Wide_any 7 _).mono ?_; rintro e w2 ⟨rfl, hb2⟩; have HB2 := Lib.hid (below_step HB1.out hb2); clear hb2 HB1; rw [Num.ex2]
  go_wp2_with fail
  refine (Text_any _ (by decide) _).mono ?_; rintro e w3 ⟨rfl, hb3⟩; have HB3 := Lib.hid (below_step HB2.out hb3); clear hb3 HB2; rw [Num.ex3]
  go_wp2_with fail
  refine (Fixed_any _ (by decide) 3 _).mono ?_; rintro e w4 ⟨rfl, hb4⟩; have HB4 := Lib.hid (below_step HB3.out hb4); clear hb4 HB3; rw [Num.ex4]
  go_wp2_with fail
  rw [Num.ex5]
  have hsz := HB4.out.size
  have HB5 := Lib.hid (HB4.out.alloc hsz (.cells #[.string ⟨#[172, 2, 7, 0, 0, 0, 0, 0, 0, 0, 2, 97, 98, 99, 0, 0, 1, 122]⟩, .bool false] 32))
  have hc0 : CurAt w4.heap.size ⟨#[172, 2, 7, 0, 0, 0, 0, 0, 0, 0, 2, 97, 98, 99, 0, 0, 1, 122]⟩ false (w4.alloc (.cells #[.string ⟨#[172, 2, 7, 0, 0, 0, 0, 0, 0, 0, 2, 97, 98, 99, 0, 0, 1, 122]⟩, .bool false] 32)) := heap_alloc_new _ _
  have HC0 := Lib.hid hc0; clear hc0
  refine (curSmall _ _ (by decide) false _ HC0.out).mono ?_; rintro e W1 ⟨rfl, h1, h2⟩
  rw [Num.st1.2.1, Num.st1.2.2] at h1
  rw [Num.st1.1]
  have HC1 := Lib.hid h1; have HG1 := Lib.hid h2; clear h1 h2 HC0
  go_wp2_with fail
  refine (curWide _ _ (by decide) false _ HC1.out).mono ?_; rintro e W2 ⟨rfl, h1, h2⟩
  rw [Num.st2.2.1, Num.st2.2.2] at h1
  rw [Num.st2.1]
  have HC2 := Lib.hid h1; have HG2 := Lib.hid (grown_trans HG1.out h2); clear h1 h2 HC1 HG1
  go_wp2_with fail
  refine (curText _ _ (by decide) false 5 (Lib.hid (by decide)) _ HC2.out).mono ?_; rintro e W3 ⟨rfl, h1, h2⟩
  rw [Num.st3.2.1, Num.st3.2.2] at h1
  rw [Num.st3.1]
  have HC3 := Lib.hid h1; have HG3 := Lib.hid (grown_trans HG2.out h2); clear h1 h2 HC2 HG2
  go_wp2_with fail
  refine (curFixed _ _ (by decide) false 3 _ HC3.out).mono ?_; rintro e W4 ⟨rfl, h1, h2⟩
  rw [Num.st4.2.1, Num.st4.2.2] at h1
  rw [Num.st4.1]
  have HC4 := Lib.hid h1; have HG4 := Lib.hid (grown_trans HG3.out h2); clear h1 h2 HC3 HG3
  go_wp2_with fail
  refine (curDone _ _ false _ HC4.out).mono ?_; rintro e W5 ⟨rfl, h1⟩
  have HC5 := Lib.hid (heap_keep HC4.out h1 : CurAt _ _ _ _); have HG5 := Lib.hid (grown_trans HG4.out (grown_of_below h1)); clear h1 HC4 HG4
  go_wp2_with fail
  refine (curTake _ _ (by decide) false 1 _ HC5.out).mono ?_; rintro e W6 ⟨rfl, h1, h2⟩
  rw [Num.st5.2.1, Num.st5.2.2] at h1
  rw [Num.st5.1]
  have HC6 := Lib.hid h1; have HG6 := Lib.hid (grown_trans HG5.out h2); clear h1 h2 HC5 HG5
  go_wp2_with fail
  refine (curDone _ _ false _ HC6.out).mono ?_; rintro e W7 ⟨rfl, h1⟩
  have HC7 := Lib.hid (heap_keep HC6.out h1 : CurAt _ _ _ _); have HG7 := Lib.hid (grown_trans HG6.out (grown_of_below h1)); clear h1 HC6 HG6
  go_wp2_with fail
  refine (curTake _ _ (by decide) false 1 _ HC7.out).mono ?_; rintro e W8 ⟨rfl, h1, h2⟩
  rw [Num.st6.2.1, Num.st6.2.2] at h1
  rw [Num.st6.1]
  have HC8 := Lib.hid h1; have HG8 := Lib.hid (grown_trans HG7.out h2); clear h1 h2 HC7 HG7
  have HB8 := Lib.hid (below_of_grown HB5.out HG8.out (by simp; omega) hsz)
  clear HB5 HG8
  go_wp2_with fail
  have cv2 := fun (W : World) (b : Nat) (h : RowIs W b (.cells #[.int .u8 172, .int .u8 2] 5 (0, 0))) => arr_take (P := Try.prog) W b 47 5 9 5 [172, 2] Try.underlying47 Try.underlying5 Try.underlying9 h 2 2 (by decide)
  have cv4 := fun (W : World) (b : Nat) (h : RowIs W b (.cells #[.int .u8 99, .int .u8 0, .int .u8 0, .int .u8 1] 5 (0, 0))) => arr_take (P := Try.prog) W b 47 5 9 5 [99, 0, 0, 1] Try.underlying47 Try.underlying5 Try.underlying9 h 4 4 (by decide)
  simp only [List.take] at cv2 cv4
  have HCUR := Lib.hid (show W8.drew.cell? ⟨w4.heap.size, 1, none⟩ = some (.bool true) from HC8.out.cells.2.1)
  have HB9 := Lib.hid (Below.drew HB8.out)
  clear HC8 HB8 hsz
  refine region_any_gen (by kernel_rfl) (fun R hR hN => ?_)
  generalize W8.drew = W9 at *
  have h0 := Below.refl W9.heap.size W9
  refine wpAny_ready (rs := [0, 1]) (by kernel_rfl) (by simp) ?_
  refine AllReady.cons rfl (fun K hK => ?_) ?_
  · skip
    go_simp
    refine (Small_any 300 (Lib.hid (by decide)) _).mono ?_; rintro e Wa0 ⟨rfl, hc⟩; rw [Num.ex1]
    go_wp2_with fail
    try simp only [Act.put, List.setIfInBounds_toArray, List.set_cons_zero, List.set_cons_succ]
    have hd := below_step h0 hc
    have he := hd.alloc hd.size (Obj.cells #[.int .u8 172, .int .u8 2] 5)
    have hcv := cv2 _ _ (RowIs.one Wa0 (Obj.cells #[.int .u8 172, .int .u8 2] 5))
    refine wpAny_ready (rs := [1]) (by kernel_rfl) (by simp) ?_
    refine AllReady.cons rfl (fun K hK => ?_) AllReady.nil
    go_simp
    refine hK _ _ ?_; clear hK K
    try simp only [Act.put, List.setIfInBounds_toArray, List.set_cons_zero, List.set_cons_succ]
    refine wpAny_ready (rs := [2]) (by kernel_rfl) (by simp) ?_
    refine AllReady.cons rfl (fun K hK => ?_) AllReady.nil
    go_simp
    refine hK _ _ ?_; clear hK K
    try simp only [Act.put, List.setIfInBounds_toArray, List.set_cons_zero, List.set_cons_succ]
    generalize hWc : Wa0.alloc (Obj.cells #[.int .u8 172, .int .u8 2] 5) = Wc0 at *
    have hf := Lib.hid he; clear hc hd he hcv hWc
    refine take_at (i := 3) (d := (some 29)) (v := .bool true) rfl (by kernel_rfl) (by kernel_rfl) (by kernel_rfl) (by kernel_rfl) hR (by kernel_rfl) (fun w => by kernel_rfl) ?_
    try simp only [Act.put, List.setIfInBounds_toArray, List.set_cons_zero, List.set_cons_succ]
    refine take_at (i := 4) (d := (some 30)) (v := .bool true) rfl (by kernel_rfl) (by kernel_rfl) (by kernel_rfl) (by kernel_rfl) hR (by kernel_rfl) (fun w => by kernel_rfl) ?_
    try simp only [Act.put, List.setIfInBounds_toArray, List.set_cons_zero, List.set_cons_succ]
    refine take_at (i := 5) (d := (some 31)) (v := .int .u64 300) rfl (by kernel_rfl) (by kernel_rfl) (by kernel_rfl) (by kernel_rfl) hR (by kernel_rfl) (fun w => by kernel_rfl) ?_
    try simp only [Act.put, List.setIfInBounds_toArray, List.set_cons_zero, List.set_cons_succ]
    refine take_at (i := 6) (d := (some 32)) (v := .bool true) rfl (by kernel_rfl) (by kernel_rfl) (by kernel_rfl) (by kernel_rfl) hR (by kernel_rfl) (fun w => by kernel_rfl) ?_
    try simp only [Act.put, List.setIfInBounds_toArray, List.set_cons_zero, List.set_cons_succ]
    refine take_at (i := 7) (d := (some 33)) (v := .bool true) rfl (by kernel_rfl) (by kernel_rfl) (by kernel_rfl) (by kernel_rfl) hR (by kernel_rfl) (fun w => by kernel_rfl) ?_
    try simp only [Act.put, List.setIfInBounds_toArray, List.set_cons_zero, List.set_cons_succ]
    refine take_at (i := 8) (d := (some 34)) (v := .bool true) rfl (by kernel_rfl) (by kernel_rfl) (by kernel_rfl) (by kernel_rfl) hR (by kernel_rfl) (fun w => by kernel_rfl) ?_
    try simp only [Act.put, List.setIfInBounds_toArray, List.set_cons_zero, List.set_cons_succ]
    refine take_at (i := 9) (d := (some 35)) (v := .int .u64 7) rfl (by kernel_rfl) (by kernel_rfl) (by kernel_rfl) (by kernel_rfl) hR (by kernel_rfl) (fun w => by kernel_rfl) ?_
    try simp only [Act.put, List.setIfInBounds_toArray, List.set_cons_zero, List.set_cons_succ]
    refine take_at (i := 10) (d := (some 36)) (v := .bool true) rfl (by kernel_rfl) (by kernel_rfl) (by kernel_rfl) (by kernel_rfl) hR (by kernel_rfl) (fun w => by kernel_rfl) ?_
    try simp only [Act.put, List.setIfInBounds_toArray, List.set_cons_zero, List.set_cons_succ]
    refine take_at (i := 11) (d := (some 37)) (v := .bool true) rfl (by kernel_rfl) (by kernel_rfl) (by kernel_rfl) (by kernel_rfl) hR (by kernel_rfl) (fun w => by kernel_rfl) ?_
    try simp only [Act.put, List.setIfInBounds_toArray, List.set_cons_zero, List.set_cons_succ]
    refine take_at (i := 12) (d := (some 38)) (v := .bool true) rfl (by kernel_rfl) (by kernel_rfl) (by kernel_rfl) (by kernel_rfl) hR (by kernel_rfl) (fun w => by kernel_rfl) ?_
    try simp only [Act.put, List.setIfInBounds_toArray, List.set_cons_zero, List.set_cons_succ]
    refine take_at (i := 13) (d := (some 39)) (v := .string ⟨#[97, 98]⟩) rfl (by kernel_rfl) (by kernel_rfl) (by kernel_rfl) (by kernel_rfl) hR (by kernel_rfl) (fun w => by kernel_rfl) ?_
    try simp only [Act.put, List.setIfInBounds_toArray, List.set_cons_zero, List.set_cons_succ]
    refine take_at (i := 14) (d := (some 40)) (v := .bool true) rfl (by kernel_rfl) (by kernel_rfl) (by kernel_rfl) (by kernel_rfl) hR (by kernel_rfl) (fun w => by kernel_rfl) ?_
    try simp only [Act.put, List.setIfInBounds_toArray, List.set_cons_zero, List.set_cons_succ]
    refine take_at (i := 15) (d := (some 41)) (v := .bool true) rfl (by kernel_rfl) (by kernel_rfl) (by kernel_rfl) (by kernel_rfl) hR (by kernel_rfl) (fun w => by kernel_rfl) ?_
    try simp only [Act.put, List.setIfInBounds_toArray, List.set_cons_zero, List.set_cons_succ]
    refine take_at (i := 16) (d := (some 42)) (v := .bool true) rfl (by kernel_rfl) (by kernel_rfl) (by kernel_rfl) (by kernel_rfl) hR (by kernel_rfl) (fun w => by kernel_rfl) ?_
    try simp only [Act.put, List.setIfInBounds_toArray, List.set_cons_zero, List.set_cons_succ]
    refine take_at (i := 17) (d := (some 43)) (v := .string ⟨#[99]⟩) rfl (by kernel_rfl) (by kernel_rfl) (by kernel_rfl) (by kernel_rfl) hR (by kernel_rfl) (fun w => by kernel_rfl) ?_
    try simp only [Act.put, List.setIfInBounds_toArray, List.set_cons_zero, List.set_cons_succ]
    refine take_at (i := 18) (d := (some 44)) (v := .bool true) rfl (by kernel_rfl) (by kernel_rfl) (by kernel_rfl) (by kernel_rfl) hR (by kernel_rfl) (fun w => by kernel_rfl) ?_
    try simp only [Act.put, List.setIfInBounds_toArray, List.set_cons_zero, List.set_cons_succ]
    refine take_at (i := 19) (d := (some 45)) (v := .bool true) rfl (by kernel_rfl) (by kernel_rfl) (by kernel_rfl) (by kernel_rfl) hR (by kernel_rfl) (fun w => by kernel_rfl) ?_
    try simp only [Act.put, List.setIfInBounds_toArray, List.set_cons_zero, List.set_cons_succ]
    refine take_at (i := 20) (d := (some 46)) (v := .bool true) rfl (by kernel_rfl) (by kernel_rfl) (by kernel_rfl) (by kernel_rfl) hR (by kernel_rfl) (fun w => by kernel_rfl) ?_
    try simp only [Act.put, List.setIfInBounds_toArray, List.set_cons_zero, List.set_cons_succ]
    refine take_at (i := 21) (d := (some 47)) (v := .bool false) rfl (by kernel_rfl) (by kernel_rfl) (by kernel_rfl) (by kernel_rfl) hR (by kernel_rfl) (fun w => by kernel_rfl) ?_
    try simp only [Act.put, List.setIfInBounds_toArray, List.set_cons_zero, List.set_cons_succ]
    refine take_at (i := 22) (d := (some 48)) (v := .bool true) rfl (by kernel_rfl) (by kernel_rfl) (by kernel_rfl) (by kernel_rfl) hR (by kernel_rfl) (fun w => by kernel_rfl) ?_
    try simp only [Act.put, List.setIfInBounds_toArray, List.set_cons_zero, List.set_cons_succ]
    refine take_at (i := 23) (d := (some 49)) (v := .bool true) rfl (by kernel_rfl) (by kernel_rfl) (by kernel_rfl) (by kernel_rfl) hR (by kernel_rfl) (fun w => by kernel_rfl) ?_
    try simp only [Act.put, List.setIfInBounds_toArray, List.set_cons_zero, List.set_cons_succ]
    refine take_at (i := 24) (d := (some 50)) (v := .bool true) rfl (by kernel_rfl) (by kernel_rfl) (by kernel_rfl) (by kernel_rfl) hR (by kernel_rfl) (fun w => by kernel_rfl) ?_
    try simp only [Act.put, List.setIfInBounds_toArray, List.set_cons_zero, List.set_cons_succ]
    refine take_at (i := 25) (d := (some 51)) (v := .string ⟨#[122]⟩) rfl (by kernel_rfl) (by kernel_rfl) (by kernel_rfl) (by kernel_rfl) hR (by kernel_rfl) (fun w => by kernel_rfl) ?_
    try simp only [Act.put, List.setIfInBounds_toArray, List.set_cons_zero, List.set_cons_succ]
    refine take_at (i := 26) (d := (some 52)) (v := .bool true) rfl (by kernel_rfl) (by kernel_rfl) (by kernel_rfl) (by kernel_rfl) hR (by kernel_rfl) (fun w => by kernel_rfl) ?_
    try simp only [Act.put, List.setIfInBounds_toArray, List.set_cons_zero, List.set_cons_succ]
    refine take_at (i := 27) (d := (some 53)) (v := .bool true) rfl (by kernel_rfl) (by kernel_rfl) (by kernel_rfl) (by kernel_rfl) hR (by kernel_rfl) (fun w => by kernel_rfl) ?_
    try simp only [Act.put, List.setIfInBounds_toArray, List.set_cons_zero, List.set_cons_succ]
    refine take_at (i := 28) (d := (some 54)) (v := .bool true) rfl (by kernel_rfl) (by kernel_rfl) (by kernel_rfl) (by kernel_rfl) hR (by kernel_rfl) (fun w => by kernel_rfl) ?_
    try simp only [Act.put, List.setIfInBounds_toArray, List.set_cons_zero, List.set_cons_succ]
    refine take_at (i := 29) (d := (some 55)) (v := .bool true) rfl (by kernel_rfl) (by kernel_rfl) (by kernel_rfl) (by kernel_rfl) hR (by kernel_rfl) (fun w => by kernel_rfl) ?_
    try simp only [Act.put, List.setIfInBounds_toArray, List.set_cons_zero, List.set_cons_succ]
    refine take_at (i := 30) (d := (some 56)) (v := .bool true) rfl (by kernel_rfl) (by kernel_rfl) (by kernel_rfl) (by kernel_rfl) hR (by kernel_rfl) (fun w => by kernel_rfl) ?_
    try simp only [Act.put, List.setIfInBounds_toArray, List.set_cons_zero, List.set_cons_succ]
    refine take_at (i := 31) (d := (some 57)) (v := .bool true) rfl (by kernel_rfl) (by kernel_rfl) (by kernel_rfl) (by kernel_rfl) hR (by kernel_rfl) (fun w => by kernel_rfl) ?_
    try simp only [Act.put, List.setIfInBounds_toArray, List.set_cons_zero, List.set_cons_succ]
    refine take_at (i := 32) (d := (some 58)) (v := .pointer (some ⟨w4.heap.size, 1, none⟩)) rfl (by kernel_rfl) (by kernel_rfl) (by kernel_rfl) (by kernel_rfl) hR (by kernel_rfl) (fun w => by kernel_rfl) ?_
    try simp only [Act.put, List.setIfInBounds_toArray, List.set_cons_zero, List.set_cons_succ]
    have hl : Wc0.cell? ⟨w4.heap.size, 1, none⟩ = some (.bool true) := cell_keep (W := W9) HCUR.out hf.out
    refine wpAny_ready (rs := [33]) (by kernel_rfl) (by simp) ?_
    refine AllReady.cons rfl (fun K hK => ?_) AllReady.nil
    go_simp
    refine hK _ _ ?_; clear hK K
    try simp only [Act.put, List.setIfInBounds_toArray, List.set_cons_zero, List.set_cons_succ]
    clear hl
    refine take_at (i := 34) (d := (some 60)) (v := .bool true) rfl (by kernel_rfl) (by kernel_rfl) (by kernel_rfl) (by kernel_rfl) hR (by kernel_rfl) (fun w => by kernel_rfl) ?_
    try simp only [Act.put, List.setIfInBounds_toArray, List.set_cons_zero, List.set_cons_succ]
    refine take_at (i := 35) (d := (some 61)) (v := .bool true) rfl (by kernel_rfl) (by kernel_rfl) (by kernel_rfl) (by kernel_rfl) hR (by kernel_rfl) (fun w => by kernel_rfl) ?_
    try simp only [Act.put, List.setIfInBounds_toArray, List.set_cons_zero, List.set_cons_succ]
    refine wpAny_ready (rs := [36]) (by kernel_rfl) (by simp) ?_
    refine AllReady.cons rfl (fun K hK => ?_) AllReady.nil
    go_simp
    refine (Zig_any (-1) (Lib.hid (by decide)) _).mono ?_; rintro e wx ⟨rfl, rfl⟩; rw [Num.ex6]
    go_wp2_with fail
    try simp only [Act.put, List.setIfInBounds_toArray, List.set_cons_zero, List.set_cons_succ]
    refine take_at (i := 37) (d := (some 63)) (v := .bool true) rfl (by kernel_rfl) (by kernel_rfl) (by kernel_rfl) (by kernel_rfl) hR (by kernel_rfl) (fun w => by kernel_rfl) ?_
    try simp only [Act.put, List.setIfInBounds_toArray, List.set_cons_zero, List.set_cons_succ]
    refine take_at (i := 38) (d := (some 64)) (v := .bool true) rfl (by kernel_rfl) (by kernel_rfl) (by kernel_rfl) (by kernel_rfl) hR (by kernel_rfl) (fun w => by kernel_rfl) ?_
    try simp only [Act.put, List.setIfInBounds_toArray, List.set_cons_zero, List.set_cons_succ]
    refine take_at (i := 39) (d := (some 65)) (v := .bool true) rfl (by kernel_rfl) (by kernel_rfl) (by kernel_rfl) (by kernel_rfl) hR (by kernel_rfl) (fun w => by kernel_rfl) ?_
    try simp only [Act.put, List.setIfInBounds_toArray, List.set_cons_zero, List.set_cons_succ]
    refine wpAny_ready (rs := [40]) (by kernel_rfl) (by simp) ?_
    refine AllReady.cons rfl (fun K hK => ?_) AllReady.nil
    go_simp
    refine (Zag_any 1 (Lib.hid (by decide)) _).mono ?_; rintro e wx ⟨rfl, rfl⟩; rw [Num.ex7]
    go_wp2_with fail
    try simp only [Act.put, List.setIfInBounds_toArray, List.set_cons_zero, List.set_cons_succ]
    refine take_at (i := 41) (d := (some 67)) (v := .bool true) rfl (by kernel_rfl) (by kernel_rfl) (by kernel_rfl) (by kernel_rfl) hR (by kernel_rfl) (fun w => by kernel_rfl) ?_
    try simp only [Act.put, List.setIfInBounds_toArray, List.set_cons_zero, List.set_cons_succ]
    refine take_at (i := 42) (d := (some 68)) (v := .bool true) rfl (by kernel_rfl) (by kernel_rfl) (by kernel_rfl) (by kernel_rfl) hR (by kernel_rfl) (fun w => by kernel_rfl) ?_
    try simp only [Act.put, List.setIfInBounds_toArray, List.set_cons_zero, List.set_cons_succ]
    refine take_at (i := 43) (d := (some 69)) (v := .bool true) rfl (by kernel_rfl) (by kernel_rfl) (by kernel_rfl) (by kernel_rfl) hR (by kernel_rfl) (fun w => by kernel_rfl) ?_
    try simp only [Act.put, List.setIfInBounds_toArray, List.set_cons_zero, List.set_cons_succ]
    have hg := hf.out
    refine wpAny_ready (rs := [44, 45]) (by kernel_rfl) (by simp) ?_
    refine AllReady.cons rfl (fun K hK => ?_) ?_
    · skip
      go_simp
      refine (Fixed_any _ (by decide) 3 _).mono ?_; rintro e Wa1 ⟨rfl, hc⟩; rw [Num.ex4]
      go_wp2_with fail
      try simp only [Act.put, List.setIfInBounds_toArray, List.set_cons_zero, List.set_cons_succ]
      have hd := below_step hg hc
      have he := hd.alloc hd.size (Obj.cells #[.int .u8 99, .int .u8 0, .int .u8 0, .int .u8 1] 5)
      have hcv := cv4 _ _ (RowIs.one Wa1 (Obj.cells #[.int .u8 99, .int .u8 0, .int .u8 0, .int .u8 1] 5))
      refine wpAny_ready (rs := [45]) (by kernel_rfl) (by simp) ?_
      refine AllReady.cons rfl (fun K hK => ?_) AllReady.nil
      go_simp
      refine hK _ _ ?_; clear hK K
      try simp only [Act.put, List.setIfInBounds_toArray, List.set_cons_zero, List.set_cons_succ]
      refine wpAny_ready (rs := [46]) (by kernel_rfl) (by simp) ?_
      refine AllReady.cons rfl (fun K hK => ?_) AllReady.nil
      go_simp
      refine hK _ _ ?_; clear hK K
      try simp only [Act.put, List.setIfInBounds_toArray, List.set_cons_zero, List.set_cons_succ]
      generalize hWc : Wa1.alloc (Obj.cells #[.int .u8 99, .int .u8 0, .int .u8 0, .int .u8 1] 5) = Wc1 at *
      have hf := Lib.hid he; clear hc hd he hcv hWc
      refine take_at (i := 47) (d := (some 73)) (v := .bool true) rfl (by kernel_rfl) (by kernel_rfl) (by kernel_rfl) (by kernel_rfl) hR (by kernel_rfl) (fun w => by kernel_rfl) ?_
      try simp only [Act.put, List.setIfInBounds_toArray, List.set_cons_zero, List.set_cons_succ]
      refine take_at (i := 48) (d := (some 74)) (v := .bool true) rfl (by kernel_rfl) (by kernel_rfl) (by kernel_rfl) (by kernel_rfl) hR (by kernel_rfl) (fun w => by kernel_rfl) ?_
      try simp only [Act.put, List.setIfInBounds_toArray, List.set_cons_zero, List.set_cons_succ]
      refine take_at (i := 49) (d := (some 0)) (v := .bool true) rfl (by kernel_rfl) (by kernel_rfl) (by kernel_rfl) (by kernel_rfl) hR (by kernel_rfl) (fun w => by kernel_rfl) ?_
      try simp only [Act.put, List.setIfInBounds_toArray, List.set_cons_zero, List.set_cons_succ]
      refine wpAny_done (by kernel_rfl) ?_ _
      refine hN _ _ ?_
      go_wp2_with fail
      go_ret
      exact ⟨rfl, below_step HB9.out hf.out⟩
    refine AllReady.cons rfl (fun K hK => ?_) ?_
    · skip
      go_simp
      refine hK _ _ ?_; clear hK K
      try simp only [Act.put, List.setIfInBounds_toArray, List.set_cons_zero, List.set_cons_succ]
      have hb1 := Below.alloc hg hg.size (Obj.cells #[.int .u8 99, .int .u8 0, .int .u8 0, .int .u8 1] 5)
      have hrow := RowIs.one Wc0 (Obj.cells #[.int .u8 99, .int .u8 0, .int .u8 0, .int .u8 1] 5)
      have hcv0 := cv4 _ _ hrow
      refine wpAny_ready (rs := [44, 46]) (by kernel_rfl) (by simp) ?_
      refine AllReady.cons rfl (fun K hK => ?_) ?_
      · skip
        clear hcv0
        go_simp
        refine (Fixed_any _ (by decide) 3 _).mono ?_; rintro e Wb1 ⟨rfl, hc⟩; rw [Num.ex4]
        go_wp2_with fail
        try simp only [Act.put, List.setIfInBounds_toArray, List.set_cons_zero, List.set_cons_succ]
        have he := below_step hb1 hc
        have hcv := cv4 _ _ (RowIs.keep hrow hc)
        refine wpAny_ready (rs := [46]) (by kernel_rfl) (by simp) ?_
        refine AllReady.cons rfl (fun K hK => ?_) AllReady.nil
        go_simp
        refine hK _ _ ?_; clear hK K
        try simp only [Act.put, List.setIfInBounds_toArray, List.set_cons_zero, List.set_cons_succ]
        have hf := Lib.hid he; clear hc he hcv hrow hb1
        refine take_at (i := 47) (d := (some 73)) (v := .bool true) rfl (by kernel_rfl) (by kernel_rfl) (by kernel_rfl) (by kernel_rfl) hR (by kernel_rfl) (fun w => by kernel_rfl) ?_
        try simp only [Act.put, List.setIfInBounds_toArray, List.set_cons_zero, List.set_cons_succ]
        refine take_at (i := 48) (d := (some 74)) (v := .bool true) rfl (by kernel_rfl) (by kernel_rfl) (by kernel_rfl) (by kernel_rfl) hR (by kernel_rfl) (fun w => by kernel_rfl) ?_
        try simp only [Act.put, List.setIfInBounds_toArray, List.set_cons_zero, List.set_cons_succ]
        refine take_at (i := 49) (d := (some 0)) (v := .bool true) rfl (by kernel_rfl) (by kernel_rfl) (by kernel_rfl) (by kernel_rfl) hR (by kernel_rfl) (fun w => by kernel_rfl) ?_
        try simp only [Act.put, List.setIfInBounds_toArray, List.set_cons_zero, List.set_cons_succ]
        refine wpAny_done (by kernel_rfl) ?_ _
        refine hN _ _ ?_
        go_wp2_with fail
        go_ret
        exact ⟨rfl, below_step HB9.out hf.out⟩
      refine AllReady.cons rfl (fun K hK => ?_) ?_
      · skip
        go_simp
        refine hK _ _ ?_; clear hK K
        try simp only [Act.put, List.setIfInBounds_toArray, List.set_cons_zero, List.set_cons_succ]
        refine wpAny_ready (rs := [44]) (by kernel_rfl) (by simp) ?_
        refine AllReady.cons rfl (fun K hK => ?_) AllReady.nil
        clear hcv0 hrow
        go_simp
        refine (Fixed_any _ (by decide) 3 _).mono ?_; rintro e Wb1 ⟨rfl, hc⟩; rw [Num.ex4]
        go_wp2_with fail
        try simp only [Act.put, List.setIfInBounds_toArray, List.set_cons_zero, List.set_cons_succ]
        have he := below_step hb1 hc
        have hf := Lib.hid he; clear hc he hb1
        refine take_at (i := 47) (d := (some 73)) (v := .bool true) rfl (by kernel_rfl) (by kernel_rfl) (by kernel_rfl) (by kernel_rfl) hR (by kernel_rfl) (fun w => by kernel_rfl) ?_
        try simp only [Act.put, List.setIfInBounds_toArray, List.set_cons_zero, List.set_cons_succ]
        refine take_at (i := 48) (d := (some 74)) (v := .bool true) rfl (by kernel_rfl) (by kernel_rfl) (by kernel_rfl) (by kernel_rfl) hR (by kernel_rfl) (fun w => by kernel_rfl) ?_
        try simp only [Act.put, List.setIfInBounds_toArray, List.set_cons_zero, List.set_cons_succ]
        refine take_at (i := 49) (d := (some 0)) (v := .bool true) rfl (by kernel_rfl) (by kernel_rfl) (by kernel_rfl) (by kernel_rfl) hR (by kernel_rfl) (fun w => by kernel_rfl) ?_
        try simp only [Act.put, List.setIfInBounds_toArray, List.set_cons_zero, List.set_cons_succ]
        refine wpAny_done (by kernel_rfl) ?_ _
        refine hN _ _ ?_
        go_wp2_with fail
        go_ret
        exact ⟨rfl, below_step HB9.out hf.out⟩
      exact AllReady.nil
    exact AllReady.nil
  refine AllReady.cons rfl (fun K hK => ?_) ?_
  · skip
    go_simp
    refine hK _ _ ?_; clear hK K
    try simp only [Act.put, List.setIfInBounds_toArray, List.set_cons_zero, List.set_cons_succ]
    have hb1 := Below.alloc h0 h0.size (Obj.cells #[.int .u8 172, .int .u8 2] 5)
    have hrow := RowIs.one W9 (Obj.cells #[.int .u8 172, .int .u8 2] 5)
    have hcv0 := cv2 _ _ hrow
    refine wpAny_ready (rs := [0, 2]) (by kernel_rfl) (by simp) ?_
    refine AllReady.cons rfl (fun K hK => ?_) ?_
    · skip
      clear hcv0
      go_simp
      refine (Small_any 300 (Lib.hid (by decide)) _).mono ?_; rintro e Wb0 ⟨rfl, hc⟩; rw [Num.ex1]
      go_wp2_with fail
      try simp only [Act.put, List.setIfInBounds_toArray, List.set_cons_zero, List.set_cons_succ]
      have he := below_step hb1 hc
      have hcv := cv2 _ _ (RowIs.keep hrow hc)
      refine wpAny_ready (rs := [2]) (by kernel_rfl) (by simp) ?_
      refine AllReady.cons rfl (fun K hK => ?_) AllReady.nil
      go_simp
      refine hK _ _ ?_; clear hK K
      try simp only [Act.put, List.setIfInBounds_toArray, List.set_cons_zero, List.set_cons_succ]
      have hf := Lib.hid he; clear hc he hcv hrow hb1
      refine take_at (i := 3) (d := (some 29)) (v := .bool true) rfl (by kernel_rfl) (by kernel_rfl) (by kernel_rfl) (by kernel_rfl) hR (by kernel_rfl) (fun w => by kernel_rfl) ?_
      try simp only [Act.put, List.setIfInBounds_toArray, List.set_cons_zero, List.set_cons_succ]
      refine take_at (i := 4) (d := (some 30)) (v := .bool true) rfl (by kernel_rfl) (by kernel_rfl) (by kernel_rfl) (by kernel_rfl) hR (by kernel_rfl) (fun w => by kernel_rfl) ?_
      try simp only [Act.put, List.setIfInBounds_toArray, List.set_cons_zero, List.set_cons_succ]
      refine take_at (i := 5) (d := (some 31)) (v := .int .u64 300) rfl (by kernel_rfl) (by kernel_rfl) (by kernel_rfl) (by kernel_rfl) hR (by kernel_rfl) (fun w => by kernel_rfl) ?_
      try simp only [Act.put, List.setIfInBounds_toArray, List.set_cons_zero, List.set_cons_succ]
      refine take_at (i := 6) (d := (some 32)) (v := .bool true) rfl (by kernel_rfl) (by kernel_rfl) (by kernel_rfl) (by kernel_rfl) hR (by kernel_rfl) (fun w => by kernel_rfl) ?_
      try simp only [Act.put, List.setIfInBounds_toArray, List.set_cons_zero, List.set_cons_succ]
      refine take_at (i := 7) (d := (some 33)) (v := .bool true) rfl (by kernel_rfl) (by kernel_rfl) (by kernel_rfl) (by kernel_rfl) hR (by kernel_rfl) (fun w => by kernel_rfl) ?_
      try simp only [Act.put, List.setIfInBounds_toArray, List.set_cons_zero, List.set_cons_succ]
      refine take_at (i := 8) (d := (some 34)) (v := .bool true) rfl (by kernel_rfl) (by kernel_rfl) (by kernel_rfl) (by kernel_rfl) hR (by kernel_rfl) (fun w => by kernel_rfl) ?_
      try simp only [Act.put, List.setIfInBounds_toArray, List.set_cons_zero, List.set_cons_succ]
      refine take_at (i := 9) (d := (some 35)) (v := .int .u64 7) rfl (by kernel_rfl) (by kernel_rfl) (by kernel_rfl) (by kernel_rfl) hR (by kernel_rfl) (fun w => by kernel_rfl) ?_
      try simp only [Act.put, List.setIfInBounds_toArray, List.set_cons_zero, List.set_cons_succ]
      refine take_at (i := 10) (d := (some 36)) (v := .bool true) rfl (by kernel_rfl) (by kernel_rfl) (by kernel_rfl) (by kernel_rfl) hR (by kernel_rfl) (fun w => by kernel_rfl) ?_
      try simp only [Act.put, List.setIfInBounds_toArray, List.set_cons_zero, List.set_cons_succ]
      refine take_at (i := 11) (d := (some 37)) (v := .bool true) rfl (by kernel_rfl) (by kernel_rfl) (by kernel_rfl) (by kernel_rfl) hR (by kernel_rfl) (fun w => by kernel_rfl) ?_
      try simp only [Act.put, List.setIfInBounds_toArray, List.set_cons_zero, List.set_cons_succ]
      refine take_at (i := 12) (d := (some 38)) (v := .bool true) rfl (by kernel_rfl) (by kernel_rfl) (by kernel_rfl) (by kernel_rfl) hR (by kernel_rfl) (fun w => by kernel_rfl) ?_
      try simp only [Act.put, List.setIfInBounds_toArray, List.set_cons_zero, List.set_cons_succ]
      refine take_at (i := 13) (d := (some 39)) (v := .string ⟨#[97, 98]⟩) rfl (by kernel_rfl) (by kernel_rfl) (by kernel_rfl) (by kernel_rfl) hR (by kernel_rfl) (fun w => by kernel_rfl) ?_
      try simp only [Act.put, List.setIfInBounds_toArray, List.set_cons_zero, List.set_cons_succ]
      refine take_at (i := 14) (d := (some 40)) (v := .bool true) rfl (by kernel_rfl) (by kernel_rfl) (by kernel_rfl) (by kernel_rfl) hR (by kernel_rfl) (fun w => by kernel_rfl) ?_
      try simp only [Act.put, List.setIfInBounds_toArray, List.set_cons_zero, List.set_cons_succ]
      refine take_at (i := 15) (d := (some 41)) (v := .bool true) rfl (by kernel_rfl) (by kernel_rfl) (by kernel_rfl) (by kernel_rfl) hR (by kernel_rfl) (fun w => by kernel_rfl) ?_
      try simp only [Act.put, List.setIfInBounds_toArray, List.set_cons_zero, List.set_cons_succ]
      refine take_at (i := 16) (d := (some 42)) (v := .bool true) rfl (by kernel_rfl) (by kernel_rfl) (by kernel_rfl) (by kernel_rfl) hR (by kernel_rfl) (fun w => by kernel_rfl) ?_
      try simp only [Act.put, List.setIfInBounds_toArray, List.set_cons_zero, List.set_cons_succ]
      refine take_at (i := 17) (d := (some 43)) (v := .string ⟨#[99]⟩) rfl (by kernel_rfl) (by kernel_rfl) (by kernel_rfl) (by kernel_rfl) hR (by kernel_rfl) (fun w => by kernel_rfl) ?_
      try simp only [Act.put, List.setIfInBounds_toArray, List.set_cons_zero, List.set_cons_succ]
      refine take_at (i := 18) (d := (some 44)) (v := .bool true) rfl (by kernel_rfl) (by kernel_rfl) (by kernel_rfl) (by kernel_rfl) hR (by kernel_rfl) (fun w => by kernel_rfl) ?_
      try simp only [Act.put, List.setIfInBounds_toArray, List.set_cons_zero, List.set_cons_succ]
      refine take_at (i := 19) (d := (some 45)) (v := .bool true) rfl (by kernel_rfl) (by kernel_rfl) (by kernel_rfl) (by kernel_rfl) hR (by kernel_rfl) (fun w => by kernel_rfl) ?_
      try simp only [Act.put, List.setIfInBounds_toArray, List.set_cons_zero, List.set_cons_succ]
      refine take_at (i := 20) (d := (some 46)) (v := .bool true) rfl (by kernel_rfl) (by kernel_rfl) (by kernel_rfl) (by kernel_rfl) hR (by kernel_rfl) (fun w => by kernel_rfl) ?_
      try simp only [Act.put, List.setIfInBounds_toArray, List.set_cons_zero, List.set_cons_succ]
      refine take_at (i := 21) (d := (some 47)) (v := .bool false) rfl (by kernel_rfl) (by kernel_rfl) (by kernel_rfl) (by kernel_rfl) hR (by kernel_rfl) (fun w => by kernel_rfl) ?_
      try simp only [Act.put, List.setIfInBounds_toArray, List.set_cons_zero, List.set_cons_succ]
      refine take_at (i := 22) (d := (some 48)) (v := .bool true) rfl (by kernel_rfl) (by kernel_rfl) (by kernel_rfl) (by kernel_rfl) hR (by kernel_rfl) (fun w => by kernel_rfl) ?_
      try simp only [Act.put, List.setIfInBounds_toArray, List.set_cons_zero, List.set_cons_succ]
      refine take_at (i := 23) (d := (some 49)) (v := .bool true) rfl (by kernel_rfl) (by kernel_rfl) (by kernel_rfl) (by kernel_rfl) hR (by kernel_rfl) (fun w => by kernel_rfl) ?_
      try simp only [Act.put, List.setIfInBounds_toArray, List.set_cons_zero, List.set_cons_succ]
      refine take_at (i := 24) (d := (some 50)) (v := .bool true) rfl (by kernel_rfl) (by kernel_rfl) (by kernel_rfl) (by kernel_rfl) hR (by kernel_rfl) (fun w => by kernel_rfl) ?_
      try simp only [Act.put, List.setIfInBounds_toArray, List.set_cons_zero, List.set_cons_succ]
      refine take_at (i := 25) (d := (some 51)) (v := .string ⟨#[122]⟩) rfl (by kernel_rfl) (by kernel_rfl) (by kernel_rfl) (by kernel_rfl) hR (by kernel_rfl) (fun w => by kernel_rfl) ?_
      try simp only [Act.put, List.setIfInBounds_toArray, List.set_cons_zero, List.set_cons_succ]
      refine take_at (i := 26) (d := (some 52)) (v := .bool true) rfl (by kernel_rfl) (by kernel_rfl) (by kernel_rfl) (by kernel_rfl) hR (by kernel_rfl) (fun w => by kernel_rfl) ?_
      try simp only [Act.put, List.setIfInBounds_toArray, List.set_cons_zero, List.set_cons_succ]
      refine take_at (i := 27) (d := (some 53)) (v := .bool true) rfl (by kernel_rfl) (by kernel_rfl) (by kernel_rfl) (by kernel_rfl) hR (by kernel_rfl) (fun w => by kernel_rfl) ?_
      try simp only [Act.put, List.setIfInBounds_toArray, List.set_cons_zero, List.set_cons_succ]
      refine take_at (i := 28) (d := (some 54)) (v := .bool true) rfl (by kernel_rfl) (by kernel_rfl) (by kernel_rfl) (by kernel_rfl) hR (by kernel_rfl) (fun w => by kernel_rfl) ?_
      try simp only [Act.put, List.setIfInBounds_toArray, List.set_cons_zero, List.set_cons_succ]
      refine take_at (i := 29) (d := (some 55)) (v := .bool true) rfl (by kernel_rfl) (by kernel_rfl) (by kernel_rfl) (by kernel_rfl) hR (by kernel_rfl) (fun w => by kernel_rfl) ?_
      try simp only [Act.put, List.setIfInBounds_toArray, List.set_cons_zero, List.set_cons_succ]
      refine take_at (i := 30) (d := (some 56)) (v := .bool true) rfl (by kernel_rfl) (by kernel_rfl) (by kernel_rfl) (by kernel_rfl) hR (by kernel_rfl) (fun w => by kernel_rfl) ?_
      try simp only [Act.put, List.setIfInBounds_toArray, List.set_cons_zero, List.set_cons_succ]
      refine take_at (i := 31) (d := (some 57)) (v := .bool true) rfl (by kernel_rfl) (by kernel_rfl) (by kernel_rfl) (by kernel_rfl) hR (by kernel_rfl) (fun w => by kernel_rfl) ?_
      try simp only [Act.put, List.setIfInBounds_toArray, List.set_cons_zero, List.set_cons_succ]
      refine take_at (i := 32) (d := (some 58)) (v := .pointer (some ⟨w4.heap.size, 1, none⟩)) rfl (by kernel_rfl) (by kernel_rfl) (by kernel_rfl) (by kernel_rfl) hR (by kernel_rfl) (fun w => by kernel_rfl) ?_
      try simp only [Act.put, List.setIfInBounds_toArray, List.set_cons_zero, List.set_cons_succ]
      have hl : Wb0.cell? ⟨w4.heap.size, 1, none⟩ = some (.bool true) := cell_keep (W := W9) HCUR.out hf.out
      refine wpAny_ready (rs := [33]) (by kernel_rfl) (by simp) ?_
      refine AllReady.cons rfl (fun K hK => ?_) AllReady.nil
      go_simp
      refine hK _ _ ?_; clear hK K
      try simp only [Act.put, List.setIfInBounds_toArray, List.set_cons_zero, List.set_cons_succ]
      clear hl
      refine take_at (i := 34) (d := (some 60)) (v := .bool true) rfl (by kernel_rfl) (by kernel_rfl) (by kernel_rfl) (by kernel_rfl) hR (by kernel_rfl) (fun w => by kernel_rfl) ?_
      try simp only [Act.put, List.setIfInBounds_toArray, List.set_cons_zero, List.set_cons_succ]
      refine take_at (i := 35) (d := (some 61)) (v := .bool true) rfl (by kernel_rfl) (by kernel_rfl) (by kernel_rfl) (by kernel_rfl) hR (by kernel_rfl) (fun w => by kernel_rfl) ?_
      try simp only [Act.put, List.setIfInBounds_toArray, List.set_cons_zero, List.set_cons_succ]
      refine wpAny_ready (rs := [36]) (by kernel_rfl) (by simp) ?_
      refine AllReady.cons rfl (fun K hK => ?_) AllReady.nil
      go_simp
      refine (Zig_any (-1) (Lib.hid (by decide)) _).mono ?_; rintro e wx ⟨rfl, rfl⟩; rw [Num.ex6]
      go_wp2_with fail
      try simp only [Act.put, List.setIfInBounds_toArray, List.set_cons_zero, List.set_cons_succ]
      refine take_at (i := 37) (d := (some 63)) (v := .bool true) rfl (by kernel_rfl) (by kernel_rfl) (by kernel_rfl) (by kernel_rfl) hR (by kernel_rfl) (fun w => by kernel_rfl) ?_
      try simp only [Act.put, List.setIfInBounds_toArray, List.set_cons_zero, List.set_cons_succ]
      refine take_at (i := 38) (d := (some 64)) (v := .bool true) rfl (by kernel_rfl) (by kernel_rfl) (by kernel_rfl) (by kernel_rfl) hR (by kernel_rfl) (fun w => by kernel_rfl) ?_
      try simp only [Act.put, List.setIfInBounds_toArray, List.set_cons_zero, List.set_cons_succ]
      refine take_at (i := 39) (d := (some 65)) (v := .bool true) rfl (by kernel_rfl) (by kernel_rfl) (by kernel_rfl) (by kernel_rfl) hR (by kernel_rfl) (fun w => by kernel_rfl) ?_
      try simp only [Act.put, List.setIfInBounds_toArray, List.set_cons_zero, List.set_cons_succ]
      refine wpAny_ready (rs := [40]) (by kernel_rfl) (by simp) ?_
      refine AllReady.cons rfl (fun K hK => ?_) AllReady.nil
      go_simp
      refine (Zag_any 1 (Lib.hid (by decide)) _).mono ?_; rintro e wx ⟨rfl, rfl⟩; rw [Num.ex7]
      go_wp2_with fail
      try simp only [Act.put, List.setIfInBounds_toArray, List.set_cons_zero, List.set_cons_succ]
      refine take_at (i := 41) (d := (some 67)) (v := .bool true) rfl (by kernel_rfl) (by kernel_rfl) (by kernel_rfl) (by kernel_rfl) hR (by kernel_rfl) (fun w => by kernel_rfl) ?_
      try simp only [Act.put, List.setIfInBounds_toArray, List.set_cons_zero, List.set_cons_succ]
      refine take_at (i := 42) (d := (some 68)) (v := .bool true) rfl (by kernel_rfl) (by kernel_rfl) (by kernel_rfl) (by kernel_rfl) hR (by kernel_rfl) (fun w => by kernel_rfl) ?_
      try simp only [Act.put, List.setIfInBounds_toArray, List.set_cons_zero, List.set_cons_succ]
      refine take_at (i := 43) (d := (some 69)) (v := .bool true) rfl (by kernel_rfl) (by kernel_rfl) (by kernel_rfl) (by kernel_rfl) hR (by kernel_rfl) (fun w => by kernel_rfl) ?_
      try simp only [Act.put, List.setIfInBounds_toArray, List.set_cons_zero, List.set_cons_succ]
      have hg := hf.out
      refine wpAny_ready (rs := [44, 45]) (by kernel_rfl) (by simp) ?_
      refine AllReady.cons rfl (fun K hK => ?_) ?_
      · skip
        go_simp
        refine (Fixed_any _ (by decide) 3 _).mono ?_; rintro e Wa2 ⟨rfl, hc⟩; rw [Num.ex4]
        go_wp2_with fail
        try simp only [Act.put, List.setIfInBounds_toArray, List.set_cons_zero, List.set_cons_succ]
        have hd := below_step hg hc
        have he := hd.alloc hd.size (Obj.cells #[.int .u8 99, .int .u8 0, .int .u8 0, .int .u8 1] 5)
        have hcv := cv4 _ _ (RowIs.one Wa2 (Obj.cells #[.int .u8 99, .int .u8 0, .int .u8 0, .int .u8 1] 5))
        refine wpAny_ready (rs := [45]) (by kernel_rfl) (by simp) ?_
        refine AllReady.cons rfl (fun K hK => ?_) AllReady.nil
        go_simp
        refine hK _ _ ?_; clear hK K
        try simp only [Act.put, List.setIfInBounds_toArray, List.set_cons_zero, List.set_cons_succ]
        refine wpAny_ready (rs := [46]) (by kernel_rfl) (by simp) ?_
        refine AllReady.cons rfl (fun K hK => ?_) AllReady.nil
        go_simp
        refine hK _ _ ?_; clear hK K
        try simp only [Act.put, List.setIfInBounds_toArray, List.set_cons_zero, List.set_cons_succ]
        generalize hWc : Wa2.alloc (Obj.cells #[.int .u8 99, .int .u8 0, .int .u8 0, .int .u8 1] 5) = Wc2 at *
        have hf := Lib.hid he; clear hc hd he hcv hWc
        refine take_at (i := 47) (d := (some 73)) (v := .bool true) rfl (by kernel_rfl) (by kernel_rfl) (by kernel_rfl) (by kernel_rfl) hR (by kernel_rfl) (fun w => by kernel_rfl) ?_
        try simp only [Act.put, List.setIfInBounds_toArray, List.set_cons_zero, List.set_cons_succ]
        refine take_at (i := 48) (d := (some 74)) (v := .bool true) rfl (by kernel_rfl) (by kernel_rfl) (by kernel_rfl) (by kernel_rfl) hR (by kernel_rfl) (fun w => by kernel_rfl) ?_
        try simp only [Act.put, List.setIfInBounds_toArray, List.set_cons_zero, List.set_cons_succ]
        refine take_at (i := 49) (d := (some 0)) (v := .bool true) rfl (by kernel_rfl) (by kernel_rfl) (by kernel_rfl) (by kernel_rfl) hR (by kernel_rfl) (fun w => by kernel_rfl) ?_
        try simp only [Act.put, List.setIfInBounds_toArray, List.set_cons_zero, List.set_cons_succ]
        refine wpAny_done (by kernel_rfl) ?_ _
        refine hN _ _ ?_
        go_wp2_with fail
        go_ret
        exact ⟨rfl, below_step HB9.out hf.out⟩
      refine AllReady.cons rfl (fun K hK => ?_) ?_
      · skip
        go_simp
        refine hK _ _ ?_; clear hK K
        try simp only [Act.put, List.setIfInBounds_toArray, List.set_cons_zero, List.set_cons_succ]
        have hb1 := Below.alloc hg hg.size (Obj.cells #[.int .u8 99, .int .u8 0, .int .u8 0, .int .u8 1] 5)
        have hrow := RowIs.one Wb0 (Obj.cells #[.int .u8 99, .int .u8 0, .int .u8 0, .int .u8 1] 5)
        have hcv0 := cv4 _ _ hrow
        refine wpAny_ready (rs := [44, 46]) (by kernel_rfl) (by simp) ?_
        refine AllReady.cons rfl (fun K hK => ?_) ?_
        · skip
          clear hcv0
          go_simp
          refine (Fixed_any _ (by decide) 3 _).mono ?_; rintro e Wb2 ⟨rfl, hc⟩; rw [Num.ex4]
          go_wp2_with fail
          try simp only [Act.put, List.setIfInBounds_toArray, List.set_cons_zero, List.set_cons_succ]
          have he := below_step hb1 hc
          have hcv := cv4 _ _ (RowIs.keep hrow hc)
          refine wpAny_ready (rs := [46]) (by kernel_rfl) (by simp) ?_
          refine AllReady.cons rfl (fun K hK => ?_) AllReady.nil
          go_simp
          refine hK _ _ ?_; clear hK K
          try simp only [Act.put, List.setIfInBounds_toArray, List.set_cons_zero, List.set_cons_succ]
          have hf := Lib.hid he; clear hc he hcv hrow hb1
          refine take_at (i := 47) (d := (some 73)) (v := .bool true) rfl (by kernel_rfl) (by kernel_rfl) (by kernel_rfl) (by kernel_rfl) hR (by kernel_rfl) (fun w => by kernel_rfl) ?_
          try simp only [Act.put, List.setIfInBounds_toArray, List.set_cons_zero, List.set_cons_succ]
          refine take_at (i := 48) (d := (some 74)) (v := .bool true) rfl (by kernel_rfl) (by kernel_rfl) (by kernel_rfl) (by kernel_rfl) hR (by kernel_rfl) (fun w => by kernel_rfl) ?_
          try simp only [Act.put, List.setIfInBounds_toArray, List.set_cons_zero, List.set_cons_succ]
          refine take_at (i := 49) (d := (some 0)) (v := .bool true) rfl (by kernel_rfl) (by kernel_rfl) (by kernel_rfl) (by kernel_rfl) hR (by kernel_rfl) (fun w => by kernel_rfl) ?_
          try simp only [Act.put, List.setIfInBounds_toArray, List.set_cons_zero, List.set_cons_succ]
          refine wpAny_done (by kernel_rfl) ?_ _
          refine hN _ _ ?_
          go_wp2_with fail
          go_ret
          exact ⟨rfl, below_step HB9.out hf.out⟩
        refine AllReady.cons rfl (fun K hK => ?_) ?_
        · skip
          go_simp
          refine hK _ _ ?_; clear hK K
          try simp only [Act.put, List.setIfInBounds_toArray, List.set_cons_zero, List.set_cons_succ]
          refine wpAny_ready (rs := [44]) (by kernel_rfl) (by simp) ?_
          refine AllReady.cons rfl (fun K hK => ?_) AllReady.nil
          clear hcv0 hrow
          go_simp
          refine (Fixed_any _ (by decide) 3 _).mono ?_; rintro e Wb2 ⟨rfl, hc⟩; rw [Num.ex4]
          go_wp2_with fail
          try simp only [Act.put, List.setIfInBounds_toArray, List.set_cons_zero, List.set_cons_succ]
          have he := below_step hb1 hc
          have hf := Lib.hid he; clear hc he hb1
          refine take_at (i := 47) (d := (some 73)) (v := .bool true) rfl (by kernel_rfl) (by kernel_rfl) (by kernel_rfl) (by kernel_rfl) hR (by kernel_rfl) (fun w => by kernel_rfl) ?_
          try simp only [Act.put, List.setIfInBounds_toArray, List.set_cons_zero, List.set_cons_succ]
          refine take_at (i := 48) (d := (some 74)) (v := .bool true) rfl (by kernel_rfl) (by kernel_rfl) (by kernel_rfl) (by kernel_rfl) hR (by kernel_rfl) (fun w => by kernel_rfl) ?_
          try simp only [Act.put, List.setIfInBounds_toArray, List.set_cons_zero, List.set_cons_succ]
          refine take_at (i := 49) (d := (some 0)) (v := .bool true) rfl (by kernel_rfl) (by kernel_rfl) (by kernel_rfl) (by kernel_rfl) hR (by kernel_rfl) (fun w => by kernel_rfl) ?_
          try simp only [Act.put, List.setIfInBounds_toArray, List.set_cons_zero, List.set_cons_succ]
          refine wpAny_done (by kernel_rfl) ?_ _
          refine hN _ _ ?_
          go_wp2_with fail
          go_ret
          exact ⟨rfl, below_step HB9.out hf.out⟩
        exact AllReady.nil
      exact AllReady.nil
    refine AllReady.cons rfl (fun K hK => ?_) ?_
    · skip
      go_simp
      refine hK _ _ ?_; clear hK K
      try simp only [Act.put, List.setIfInBounds_toArray, List.set_cons_zero, List.set_cons_succ]
      refine wpAny_ready (rs := [0]) (by kernel_rfl) (by simp) ?_
      refine AllReady.cons rfl (fun K hK => ?_) AllReady.nil
      clear hcv0 hrow
      go_simp
      refine (Small_any 300 (Lib.hid (by decide)) _).mono ?_; rintro e Wb0 ⟨rfl, hc⟩; rw [Num.ex1]
      go_wp2_with fail
      try simp only [Act.put, List.setIfInBounds_toArray, List.set_cons_zero, List.set_cons_succ]
      have he := below_step hb1 hc
      have hf := Lib.hid he; clear hc he hb1
      refine take_at (i := 3) (d := (some 29)) (v := .bool true) rfl (by kernel_rfl) (by kernel_rfl) (by kernel_rfl) (by kernel_rfl) hR (by kernel_rfl) (fun w => by kernel_rfl) ?_
      try simp only [Act.put, List.setIfInBounds_toArray, List.set_cons_zero, List.set_cons_succ]
      refine take_at (i := 4) (d := (some 30)) (v := .bool true) rfl (by kernel_rfl) (by kernel_rfl) (by kernel_rfl) (by kernel_rfl) hR (by kernel_rfl) (fun w => by kernel_rfl) ?_
      try simp only [Act.put, List.setIfInBounds_toArray, List.set_cons_zero, List.set_cons_succ]
      refine take_at (i := 5) (d := (some 31)) (v := .int .u64 300) rfl (by kernel_rfl) (by kernel_rfl) (by kernel_rfl) (by kernel_rfl) hR (by kernel_rfl) (fun w => by kernel_rfl) ?_
      try simp only [Act.put, List.setIfInBounds_toArray, List.set_cons_zero, List.set_cons_succ]
      refine take_at (i := 6) (d := (some 32)) (v := .bool true) rfl (by kernel_rfl) (by kernel_rfl) (by kernel_rfl) (by kernel_rfl) hR (by kernel_rfl) (fun w => by kernel_rfl) ?_
      try simp only [Act.put, List.setIfInBounds_toArray, List.set_cons_zero, List.set_cons_succ]
      refine take_at (i := 7) (d := (some 33)) (v := .bool true) rfl (by kernel_rfl) (by kernel_rfl) (by kernel_rfl) (by kernel_rfl) hR (by kernel_rfl) (fun w => by kernel_rfl) ?_
      try simp only [Act.put, List.setIfInBounds_toArray, List.set_cons_zero, List.set_cons_succ]
      refine take_at (i := 8) (d := (some 34)) (v := .bool true) rfl (by kernel_rfl) (by kernel_rfl) (by kernel_rfl) (by kernel_rfl) hR (by kernel_rfl) (fun w => by kernel_rfl) ?_
      try simp only [Act.put, List.setIfInBounds_toArray, List.set_cons_zero, List.set_cons_succ]
      refine take_at (i := 9) (d := (some 35)) (v := .int .u64 7) rfl (by kernel_rfl) (by kernel_rfl) (by kernel_rfl) (by kernel_rfl) hR (by kernel_rfl) (fun w => by kernel_rfl) ?_
      try simp only [Act.put, List.setIfInBounds_toArray, List.set_cons_zero, List.set_cons_succ]
      refine take_at (i := 10) (d := (some 36)) (v := .bool true) rfl (by kernel_rfl) (by kernel_rfl) (by kernel_rfl) (by kernel_rfl) hR (by kernel_rfl) (fun w => by kernel_rfl) ?_
      try simp only [Act.put, List.setIfInBounds_toArray, List.set_cons_zero, List.set_cons_succ]
      refine take_at (i := 11) (d := (some 37)) (v := .bool true) rfl (by kernel_rfl) (by kernel_rfl) (by kernel_rfl) (by kernel_rfl) hR (by kernel_rfl) (fun w => by kernel_rfl) ?_
      try simp only [Act.put, List.setIfInBounds_toArray, List.set_cons_zero, List.set_cons_succ]
      refine take_at (i := 12) (d := (some 38)) (v := .bool true) rfl (by kernel_rfl) (by kernel_rfl) (by kernel_rfl) (by kernel_rfl) hR (by kernel_rfl) (fun w => by kernel_rfl) ?_
      try simp only [Act.put, List.setIfInBounds_toArray, List.set_cons_zero, List.set_cons_succ]
      refine take_at (i := 13) (d := (some 39)) (v := .string ⟨#[97, 98]⟩) rfl (by kernel_rfl) (by kernel_rfl) (by kernel_rfl) (by kernel_rfl) hR (by kernel_rfl) (fun w => by kernel_rfl) ?_
      try simp only [Act.put, List.setIfInBounds_toArray, List.set_cons_zero, List.set_cons_succ]
      refine take_at (i := 14) (d := (some 40)) (v := .bool true) rfl (by kernel_rfl) (by kernel_rfl) (by kernel_rfl) (by kernel_rfl) hR (by kernel_rfl) (fun w => by kernel_rfl) ?_
      try simp only [Act.put, List.setIfInBounds_toArray, List.set_cons_zero, List.set_cons_succ]
      refine take_at (i := 15) (d := (some 41)) (v := .bool true) rfl (by kernel_rfl) (by kernel_rfl) (by kernel_rfl) (by kernel_rfl) hR (by kernel_rfl) (fun w => by kernel_rfl) ?_
      try simp only [Act.put, List.setIfInBounds_toArray, List.set_cons_zero, List.set_cons_succ]
      refine take_at (i := 16) (d := (some 42)) (v := .bool true) rfl (by kernel_rfl) (by kernel_rfl) (by kernel_rfl) (by kernel_rfl) hR (by kernel_rfl) (fun w => by kernel_rfl) ?_
      try simp only [Act.put, List.setIfInBounds_toArray, List.set_cons_zero, List.set_cons_succ]
      refine take_at (i := 17) (d := (some 43)) (v := .string ⟨#[99]⟩) rfl (by kernel_rfl) (by kernel_rfl) (by kernel_rfl) (by kernel_rfl) hR (by kernel_rfl) (fun w => by kernel_rfl) ?_
      try simp only [Act.put, List.setIfInBounds_toArray, List.set_cons_zero, List.set_cons_succ]
      refine take_at (i := 18) (d := (some 44)) (v := .bool true) rfl (by kernel_rfl) (by kernel_rfl) (by kernel_rfl) (by kernel_rfl) hR (by kernel_rfl) (fun w => by kernel_rfl) ?_
      try simp only [Act.put, List.setIfInBounds_toArray, List.set_cons_zero, List.set_cons_succ]
      refine take_at (i := 19) (d := (some 45)) (v := .bool true) rfl (by kernel_rfl) (by kernel_rfl) (by kernel_rfl) (by kernel_rfl) hR (by kernel_rfl) (fun w => by kernel_rfl) ?_
      try simp only [Act.put, List.setIfInBounds_toArray, List.set_cons_zero, List.set_cons_succ]
      refine take_at (i := 20) (d := (some 46)) (v := .bool true) rfl (by kernel_rfl) (by kernel_rfl) (by kernel_rfl) (by kernel_rfl) hR (by kernel_rfl) (fun w => by kernel_rfl) ?_
      try simp only [Act.put, List.setIfInBounds_toArray, List.set_cons_zero, List.set_cons_succ]
      refine take_at (i := 21) (d := (some 47)) (v := .bool false) rfl (by kernel_rfl) (by kernel_rfl) (by kernel_rfl) (by kernel_rfl) hR (by kernel_rfl) (fun w => by kernel_rfl) ?_
      try simp only [Act.put, List.setIfInBounds_toArray, List.set_cons_zero, List.set_cons_succ]
      refine take_at (i := 22) (d := (some 48)) (v := .bool true) rfl (by kernel_rfl) (by kernel_rfl) (by kernel_rfl) (by kernel_rfl) hR (by kernel_rfl) (fun w => by kernel_rfl) ?_
      try simp only [Act.put, List.setIfInBounds_toArray, List.set_cons_zero, List.set_cons_succ]
      refine take_at (i := 23) (d := (some 49)) (v := .bool true) rfl (by kernel_rfl) (by kernel_rfl) (by kernel_rfl) (by kernel_rfl) hR (by kernel_rfl) (fun w => by kernel_rfl) ?_
      try simp only [Act.put, List.setIfInBounds_toArray, List.set_cons_zero, List.set_cons_succ]
      refine take_at (i := 24) (d := (some 50)) (v := .bool true) rfl (by kernel_rfl) (by kernel_rfl) (by kernel_rfl) (by kernel_rfl) hR (by kernel_rfl) (fun w => by kernel_rfl) ?_
      try simp only [Act.put, List.setIfInBounds_toArray, List.set_cons_zero, List.set_cons_succ]
      refine take_at (i := 25) (d := (some 51)) (v := .string ⟨#[122]⟩) rfl (by kernel_rfl) (by kernel_rfl) (by kernel_rfl) (by kernel_rfl) hR (by kernel_rfl) (fun w => by kernel_rfl) ?_
      try simp only [Act.put, List.setIfInBounds_toArray, List.set_cons_zero, List.set_cons_succ]
      refine take_at (i := 26) (d := (some 52)) (v := .bool true) rfl (by kernel_rfl) (by kernel_rfl) (by kernel_rfl) (by kernel_rfl) hR (by kernel_rfl) (fun w => by kernel_rfl) ?_
      try simp only [Act.put, List.setIfInBounds_toArray, List.set_cons_zero, List.set_cons_succ]
      refine take_at (i := 27) (d := (some 53)) (v := .bool true) rfl (by kernel_rfl) (by kernel_rfl) (by kernel_rfl) (by kernel_rfl) hR (by kernel_rfl) (fun w => by kernel_rfl) ?_
      try simp only [Act.put, List.setIfInBounds_toArray, List.set_cons_zero, List.set_cons_succ]
      refine take_at (i := 28) (d := (some 54)) (v := .bool true) rfl (by kernel_rfl) (by kernel_rfl) (by kernel_rfl) (by kernel_rfl) hR (by kernel_rfl) (fun w => by kernel_rfl) ?_
      try simp only [Act.put, List.setIfInBounds_toArray, List.set_cons_zero, List.set_cons_succ]
      refine take_at (i := 29) (d := (some 55)) (v := .bool true) rfl (by kernel_rfl) (by kernel_rfl) (by kernel_rfl) (by kernel_rfl) hR (by kernel_rfl) (fun w => by kernel_rfl) ?_
      try simp only [Act.put, List.setIfInBounds_toArray, List.set_cons_zero, List.set_cons_succ]
      refine take_at (i := 30) (d := (some 56)) (v := .bool true) rfl (by kernel_rfl) (by kernel_rfl) (by kernel_rfl) (by kernel_rfl) hR (by kernel_rfl) (fun w => by kernel_rfl) ?_
      try simp only [Act.put, List.setIfInBounds_toArray, List.set_cons_zero, List.set_cons_succ]
      refine take_at (i := 31) (d := (some 57)) (v := .bool true) rfl (by kernel_rfl) (by kernel_rfl) (by kernel_rfl) (by kernel_rfl) hR (by kernel_rfl) (fun w => by kernel_rfl) ?_
      try simp only [Act.put, List.setIfInBounds_toArray, List.set_cons_zero, List.set_cons_succ]
      refine take_at (i := 32) (d := (some 58)) (v := .pointer (some ⟨w4.heap.size, 1, none⟩)) rfl (by kernel_rfl) (by kernel_rfl) (by kernel_rfl) (by kernel_rfl) hR (by kernel_rfl) (fun w => by kernel_rfl) ?_
      try simp only [Act.put, List.setIfInBounds_toArray, List.set_cons_zero, List.set_cons_succ]
      have hl : Wb0.cell? ⟨w4.heap.size, 1, none⟩ = some (.bool true) := cell_keep (W := W9) HCUR.out hf.out
      refine wpAny_ready (rs := [33]) (by kernel_rfl) (by simp) ?_
      refine AllReady.cons rfl (fun K hK => ?_) AllReady.nil
      go_simp
      refine hK _ _ ?_; clear hK K
      try simp only [Act.put, List.setIfInBounds_toArray, List.set_cons_zero, List.set_cons_succ]
      clear hl
      refine take_at (i := 34) (d := (some 60)) (v := .bool true) rfl (by kernel_rfl) (by kernel_rfl) (by kernel_rfl) (by kernel_rfl) hR (by kernel_rfl) (fun w => by kernel_rfl) ?_
      try simp only [Act.put, List.setIfInBounds_toArray, List.set_cons_zero, List.set_cons_succ]
      refine take_at (i := 35) (d := (some 61)) (v := .bool true) rfl (by kernel_rfl) (by kernel_rfl) (by kernel_rfl) (by kernel_rfl) hR (by kernel_rfl) (fun w => by kernel_rfl) ?_
      try simp only [Act.put, List.setIfInBounds_toArray, List.set_cons_zero, List.set_cons_succ]
      refine wpAny_ready (rs := [36]) (by kernel_rfl) (by simp) ?_
      refine AllReady.cons rfl (fun K hK => ?_) AllReady.nil
      go_simp
      refine (Zig_any (-1) (Lib.hid (by decide)) _).mono ?_; rintro e wx ⟨rfl, rfl⟩; rw [Num.ex6]
      go_wp2_with fail
      try simp only [Act.put, List.setIfInBounds_toArray, List.set_cons_zero, List.set_cons_succ]
      refine take_at (i := 37) (d := (some 63)) (v := .bool true) rfl (by kernel_rfl) (by kernel_rfl) (by kernel_rfl) (by kernel_rfl) hR (by kernel_rfl) (fun w => by kernel_rfl) ?_
      try simp only [Act.put, List.setIfInBounds_toArray, List.set_cons_zero, List.set_cons_succ]
      refine take_at (i := 38) (d := (some 64)) (v := .bool true) rfl (by kernel_rfl) (by kernel_rfl) (by kernel_rfl) (by kernel_rfl) hR (by kernel_rfl) (fun w => by kernel_rfl) ?_
      try simp only [Act.put, List.setIfInBounds_toArray, List.set_cons_zero, List.set_cons_succ]
      refine take_at (i := 39) (d := (some 65)) (v := .bool true) rfl (by kernel_rfl) (by kernel_rfl) (by kernel_rfl) (by kernel_rfl) hR (by kernel_rfl) (fun w => by kernel_rfl) ?_
      try simp only [Act.put, List.setIfInBounds_toArray, List.set_cons_zero, List.set_cons_succ]
      refine wpAny_ready (rs := [40]) (by kernel_rfl) (by simp) ?_
      refine AllReady.cons rfl (fun K hK => ?_) AllReady.nil
      go_simp
      refine (Zag_any 1 (Lib.hid (by decide)) _).mono ?_; rintro e wx ⟨rfl, rfl⟩; rw [Num.ex7]
      go_wp2_with fail
      try simp only [Act.put, List.setIfInBounds_toArray, List.set_cons_zero, List.set_cons_succ]
      refine take_at (i := 41) (d := (some 67)) (v := .bool true) rfl (by kernel_rfl) (by kernel_rfl) (by kernel_rfl) (by kernel_rfl) hR (by kernel_rfl) (fun w => by kernel_rfl) ?_
      try simp only [Act.put, List.setIfInBounds_toArray, List.set_cons_zero, List.set_cons_succ]
      refine take_at (i := 42) (d := (some 68)) (v := .bool true) rfl (by kernel_rfl) (by kernel_rfl) (by kernel_rfl) (by kernel_rfl) hR (by kernel_rfl) (fun w => by kernel_rfl) ?_
      try simp only [Act.put, List.setIfInBounds_toArray, List.set_cons_zero, List.set_cons_succ]
      refine take_at (i := 43) (d := (some 69)) (v := .bool true) rfl (by kernel_rfl) (by kernel_rfl) (by kernel_rfl) (by kernel_rfl) hR (by kernel_rfl) (fun w => by kernel_rfl) ?_
      try simp only [Act.put, List.setIfInBounds_toArray, List.set_cons_zero, List.set_cons_succ]
      have hg := hf.out
      refine wpAny_ready (rs := [44, 45]) (by kernel_rfl) (by simp) ?_
      refine AllReady.cons rfl (fun K hK => ?_) ?_
      · skip
        go_simp
        refine (Fixed_any _ (by decide) 3 _).mono ?_; rintro e Wa3 ⟨rfl, hc⟩; rw [Num.ex4]
        go_wp2_with fail
        try simp only [Act.put, List.setIfInBounds_toArray, List.set_cons_zero, List.set_cons_succ]
        have hd := below_step hg hc
        have he := hd.alloc hd.size (Obj.cells #[.int .u8 99, .int .u8 0, .int .u8 0, .int .u8 1] 5)
        have hcv := cv4 _ _ (RowIs.one Wa3 (Obj.cells #[.int .u8 99, .int .u8 0, .int .u8 0, .int .u8 1] 5))
        refine wpAny_ready (rs := [45]) (by kernel_rfl) (by simp) ?_
        refine AllReady.cons rfl (fun K hK => ?_) AllReady.nil
        go_simp
        refine hK _ _ ?_; clear hK K
        try simp only [Act.put, List.setIfInBounds_toArray, List.set_cons_zero, List.set_cons_succ]
        refine wpAny_ready (rs := [46]) (by kernel_rfl) (by simp) ?_
        refine AllReady.cons rfl (fun K hK => ?_) AllReady.nil
        go_simp
        refine hK _ _ ?_; clear hK K
        try simp only [Act.put, List.setIfInBounds_toArray, List.set_cons_zero, List.set_cons_succ]
        generalize hWc : Wa3.alloc (Obj.cells #[.int .u8 99, .int .u8 0, .int .u8 0, .int .u8 1] 5) = Wc3 at *
        have hf := Lib.hid he; clear hc hd he hcv hWc
        refine take_at (i := 47) (d := (some 73)) (v := .bool true) rfl (by kernel_rfl) (by kernel_rfl) (by kernel_rfl) (by kernel_rfl) hR (by kernel_rfl) (fun w => by kernel_rfl) ?_
        try simp only [Act.put, List.setIfInBounds_toArray, List.set_cons_zero, List.set_cons_succ]
        refine take_at (i := 48) (d := (some 74)) (v := .bool true) rfl (by kernel_rfl) (by kernel_rfl) (by kernel_rfl) (by kernel_rfl) hR (by kernel_rfl) (fun w => by kernel_rfl) ?_
        try simp only [Act.put, List.setIfInBounds_toArray, List.set_cons_zero, List.set_cons_succ]
        refine take_at (i := 49) (d := (some 0)) (v := .bool true) rfl (by kernel_rfl) (by kernel_rfl) (by kernel_rfl) (by kernel_rfl) hR (by kernel_rfl) (fun w => by kernel_rfl) ?_
        try simp only [Act.put, List.setIfInBounds_toArray, List.set_cons_zero, List.set_cons_succ]
        refine wpAny_done (by kernel_rfl) ?_ _
        refine hN _ _ ?_
        go_wp2_with fail
        go_ret
        exact ⟨rfl, below_step HB9.out hf.out⟩
      refine AllReady.cons rfl (fun K hK => ?_) ?_
      · skip
        go_simp
        refine hK _ _ ?_; clear hK K
        try simp only [Act.put, List.setIfInBounds_toArray, List.set_cons_zero, List.set_cons_succ]
        have hb1 := Below.alloc hg hg.size (Obj.cells #[.int .u8 99, .int .u8 0, .int .u8 0, .int .u8 1] 5)
        have hrow := RowIs.one Wb0 (Obj.cells #[.int .u8 99, .int .u8 0, .int .u8 0, .int .u8 1] 5)
        have hcv0 := cv4 _ _ hrow
        refine wpAny_ready (rs := [44, 46]) (by kernel_rfl) (by simp) ?_
        refine AllReady.cons rfl (fun K hK => ?_) ?_
        · skip
          clear hcv0
          go_simp
          refine (Fixed_any _ (by decide) 3 _).mono ?_; rintro e Wb3 ⟨rfl, hc⟩; rw [Num.ex4]
          go_wp2_with fail
          try simp only [Act.put, List.setIfInBounds_toArray, List.set_cons_zero, List.set_cons_succ]
          have he := below_step hb1 hc
          have hcv := cv4 _ _ (RowIs.keep hrow hc)
          refine wpAny_ready (rs := [46]) (by kernel_rfl) (by simp) ?_
          refine AllReady.cons rfl (fun K hK => ?_) AllReady.nil
          go_simp
          refine hK _ _ ?_; clear hK K
          try simp only [Act.put, List.setIfInBounds_toArray, List.set_cons_zero, List.set_cons_succ]
          have hf := Lib.hid he; clear hc he hcv hrow hb1
          refine take_at (i := 47) (d := (some 73)) (v := .bool true) rfl (by kernel_rfl) (by kernel_rfl) (by kernel_rfl) (by kernel_rfl) hR (by kernel_rfl) (fun w => by kernel_rfl) ?_
          try simp only [Act.put, List.setIfInBounds_toArray, List.set_cons_zero, List.set_cons_succ]
          refine take_at (i := 48) (d := (some 74)) (v := .bool true) rfl (by kernel_rfl) (by kernel_rfl) (by kernel_rfl) (by kernel_rfl) hR (by kernel_rfl) (fun w => by kernel_rfl) ?_
          try simp only [Act.put, List.setIfInBounds_toArray, List.set_cons_zero, List.set_cons_succ]
          refine take_at (i := 49) (d := (some 0)) (v := .bool true) rfl (by kernel_rfl) (by kernel_rfl) (by kernel_rfl) (by kernel_rfl) hR (by kernel_rfl) (fun w => by kernel_rfl) ?_
          try simp only [Act.put, List.setIfInBounds_toArray, List.set_cons_zero, List.set_cons_succ]
          refine wpAny_done (by kernel_rfl) ?_ _
          refine hN _ _ ?_
          go_wp2_with fail
          go_ret
          exact ⟨rfl, below_step HB9.out hf.out⟩
        refine AllReady.cons rfl (fun K hK => ?_) ?_
        · skip
          go_simp
          refine hK _ _ ?_; clear hK K
          try simp only [Act.put, List.setIfInBounds_toArray, List.set_cons_zero, List.set_cons_succ]
          refine wpAny_ready (rs := [44]) (by kernel_rfl) (by simp) ?_
          refine AllReady.cons rfl (fun K hK => ?_) AllReady.nil
          clear hcv0 hrow
          go_simp
          refine (Fixed_any _ (by decide) 3 _).mono ?_; rintro e Wb3 ⟨rfl, hc⟩; rw [Num.ex4]
          go_wp2_with fail
          try simp only [Act.put, List.setIfInBounds_toArray, List.set_cons_zero, List.set_cons_succ]
          have he := below_step hb1 hc
          have hf := Lib.hid he; clear hc he hb1
          refine take_at (i := 47) (d := (some 73)) (v := .bool true) rfl (by kernel_rfl) (by kernel_rfl) (by kernel_rfl) (by kernel_rfl) hR (by kernel_rfl) (fun w => by kernel_rfl) ?_
          try simp only [Act.put, List.setIfInBounds_toArray, List.set_cons_zero, List.set_cons_succ]
          refine take_at (i := 48) (d := (some 74)) (v := .bool true) rfl (by kernel_rfl) (by kernel_rfl) (by kernel_rfl) (by kernel_rfl) hR (by kernel_rfl) (fun w => by kernel_rfl) ?_
          try simp only [Act.put, List.setIfInBounds_toArray, List.set_cons_zero, List.set_cons_succ]
          refine take_at (i := 49) (d := (some 0)) (v := .bool true) rfl (by kernel_rfl) (by kernel_rfl) (by kernel_rfl) (by kernel_rfl) hR (by kernel_rfl) (fun w => by kernel_rfl) ?_
          try simp only [Act.put, List.setIfInBounds_toArray, List.set_cons_zero, List.set_cons_succ]
          refine wpAny_done (by kernel_rfl) ?_ _
          refine hN _ _ ?_
          go_wp2_with fail
          go_ret
          exact ⟨rfl, below_step HB9.out hf.out⟩
        exact AllReady.nil
      exact AllReady.nil
    exact AllReady.nil
  exact AllReady.nil
end Go.Proofs.Ytkknagfeceljdaa
