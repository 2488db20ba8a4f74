/-
  What the functions of package num come to: the cursor's methods.
-/
import Derived.Test.YtkknagfeceljdaaNumF
namespace Go.Proofs.Ytkknagfeceljdaa
open Go.RowKit

set_option maxHeartbeats 400000 in
theorem curSmall (b : Nat) (s : ByteArray) (hs : s.size ≤ maxLen) (bad : Bool) (w : World) (hc : CurAt b s bad w) :
    Calls Try.prog 23 #[.pointer (some ⟨b, 0, none⟩)] w fun e w' => e = .returned (.int .u64 ((Num.curV bad ((Num.decp 0 0 s.data.toList).2.2) (Num.decp 0 0 s.data.toList).1 0 : Nat) : Int)) ∧ CurAt b (Num.curV bad ((Num.decp 0 0 s.data.toList).2.2) (s.extract ((Num.decp 0 0 s.data.toList).2.1) s.size) s) (bad || !(Num.decp 0 0 s.data.toList).2.2) w' ∧ w.grownBy w' (some b) := by
  have ht := take_small b s hs bad w hc
  generalize (Num.decp 0 0 s.data.toList).1 = v at *
  generalize (Num.decp 0 0 s.data.toList).2.1 = n at *
  generalize (Num.decp 0 0 s.data.toList).2.2 = ok at *
  have HT := Lib.hid ht; clear ht hc
  go_enter Try.func23, Try.ntmps23
  go_wp2_with fail
  refine HT.out.mono ?_
  rintro e w1 ⟨rfl, h1, h2⟩
  have H1 := Lib.hid h1; have H2 := Lib.hid h2; clear h1 h2
  go_wp2_with fail
  go_ret
  exact ⟨rfl, H1.out, H2.out⟩

set_option maxHeartbeats 400000 in
theorem curWide (b : Nat) (s : ByteArray) (hs : s.size ≤ maxLen) (bad : Bool) (w : World) (hc : CurAt b s bad w) :
    Calls Try.prog 25 #[.pointer (some ⟨b, 0, none⟩)] w fun e w' => e = .returned (.int .u64 ((Num.curV bad ((decide (8 ≤ s.size))) (if decide (8 ≤ s.size) = true then Num.num (s.data.toList.take 8) else 0) 0 : Nat) : Int)) ∧ CurAt b (Num.curV bad ((decide (8 ≤ s.size))) (s.extract ((if decide (8 ≤ s.size) = true then 8 else 0)) s.size) s) (bad || !(decide (8 ≤ s.size))) w' ∧ w.grownBy w' (some b) := by
  have ht := take_wide b s hs bad w hc
  generalize (if decide (8 ≤ s.size) = true then Num.num (s.data.toList.take 8) else 0) = v at *
  generalize (if decide (8 ≤ s.size) = true then 8 else 0) = n at *
  generalize (decide (8 ≤ s.size)) = ok at *
  have HT := Lib.hid ht; clear ht hc
  go_enter Try.func25, Try.ntmps25
  go_wp2_with fail
  refine HT.out.mono ?_
  rintro e w1 ⟨rfl, h1, h2⟩
  have H1 := Lib.hid h1; have H2 := Lib.hid h2; clear h1 h2
  go_wp2_with fail
  go_ret
  exact ⟨rfl, H1.out, H2.out⟩

set_option maxHeartbeats 400000 in
theorem curText (b : Nat) (s : ByteArray) (hs : s.size ≤ maxLen) (bad : Bool) (m : Int) (hm : Hid (-9223372036854775808 ≤ m ∧ m ≤ 9223372036854775807)) (w : World) (hc : CurAt b s bad w) :
    Calls Try.prog 27 #[.pointer (some ⟨b, 0, none⟩), .int .i64 m] w fun e w' => e = .returned (.string (Num.curV bad ((Num.xOk m s)) ((if Num.xOk m s = true then Num.xV s else ByteArray.empty)) ByteArray.empty)) ∧ CurAt b (Num.curV bad ((Num.xOk m s)) (s.extract ((if Num.xOk m s = true then Num.xN s else 0)) s.size) s) (bad || !(Num.xOk m s)) w' ∧ w.grownBy w' (some b) := by
  have hc1 : CurAt b s bad (w.alloc (.cells #[.int .i64 m] 3)) := heap_keep hc ((Below.refl _ w).alloc (Nat.le_refl _) _)
  have ht := take_text b s hs bad m hm w.heap.size (w.alloc (.cells #[.int .i64 m] 3)) hc1 (cell_of_row _ _ 0 _ _ _ (heap_alloc_new w _))
  generalize (if Num.xOk m s = true then Num.xV s else ByteArray.empty) = v at *
  generalize (if Num.xOk m s = true then Num.xN s else 0) = n at *
  generalize (Num.xOk m s) = ok at *
  have HT := Lib.hid ht; clear ht hc hc1
  go_enter Try.func27, Try.ntmps27
  go_wp2_with fail
  refine HT.out.mono ?_
  rintro e w1 ⟨rfl, h1, h2⟩
  have H1 := Lib.hid h1; have H2 := Lib.hid (grown_trans (World.grownBy_alloc w _ _) h2); clear h1 h2
  go_wp2_with fail
  go_ret
  exact ⟨rfl, H1.out, H2.out⟩

set_option maxHeartbeats 400000 in
theorem curTake (b : Nat) (s : ByteArray) (hs : s.size ≤ maxLen) (bad : Bool) (m : Int) (w : World) (hc : CurAt b s bad w) :
    Calls Try.prog 31 #[.pointer (some ⟨b, 0, none⟩), .int .i64 m] w fun e w' => e = .returned (.string (Num.curV bad ((Num.tOk m s)) ((if Num.tOk m s = true then s.extract 0 m.toNat else ByteArray.empty)) ByteArray.empty)) ∧ CurAt b (Num.curV bad ((Num.tOk m s)) (s.extract ((if Num.tOk m s = true then m.toNat else 0)) s.size) s) (bad || !(Num.tOk m s)) w' ∧ w.grownBy w' (some b) := by
  have hc1 : CurAt b s bad (w.alloc (.cells #[.int .i64 m] 3)) := heap_keep hc ((Below.refl _ w).alloc (Nat.le_refl _) _)
  have ht := take_take b s hs bad m w.heap.size (w.alloc (.cells #[.int .i64 m] 3)) hc1 (cell_of_row _ _ 0 _ _ _ (heap_alloc_new w _))
  generalize (if Num.tOk m s = true then s.extract 0 m.toNat else ByteArray.empty) = v at *
  generalize (if Num.tOk m s = true then m.toNat else 0) = n at *
  generalize (Num.tOk m s) = ok at *
  have HT := Lib.hid ht; clear ht hc hc1
  go_enter Try.func31, Try.ntmps31
  go_wp2_with fail
  refine HT.out.mono ?_
  rintro e w1 ⟨rfl, h1, h2⟩
  have H1 := Lib.hid h1; have H2 := Lib.hid (grown_trans (World.grownBy_alloc w _ _) h2); clear h1 h2
  go_wp2_with fail
  go_ret
  exact ⟨rfl, H1.out, H2.out⟩

set_option maxHeartbeats 400000 in
theorem curFixed (b : Nat) (s : ByteArray) (hs : s.size ≤ maxLen) (bad : Bool) (k : Int) (w : World) (hc : CurAt b s bad w) :
    Calls Try.prog 29 #[.pointer (some ⟨b, 0, none⟩), .int .i64 k] w fun e w' => e = .returned (.string (Num.curV bad ((Num.fAll (Num.sz k) s)) ((Num.fT (Num.sz k) s)) ByteArray.empty)) ∧ CurAt b (Num.curV bad ((Num.fAll (Num.sz k) s)) (s.extract ((Num.fN (Num.sz k) s)) s.size) s) (bad || !(Num.fAll (Num.sz k) s)) w' ∧ w.grownBy w' (some b) := by
  go_enter Try.func29, Try.ntmps29
  have HC := Lib.hid hc; clear hc
  go_wp2_with fail
  refine (size_any k _).mono ?_; rintro e wx ⟨rfl, rfl⟩
  have hc1 : CurAt b s bad (w.alloc (.cells #[.int .i64 (Num.sz k : Nat)] 3)) := heap_keep HC.out ((Below.refl _ w).alloc (Nat.le_refl _) _)
  have ht := take_fixed b s hs bad (Num.sz k) (Num.sz_le k) w.heap.size (w.alloc (.cells #[.int .i64 (Num.sz k : Nat)] 3)) hc1 (cell_of_row _ _ 0 _ _ _ (heap_alloc_new w _))
  have HT := Lib.hid ht; clear ht hc1
  generalize hK : Num.sz k = kk at *
  have HK := Lib.hid hK; clear hK
  go_wp2_with fail
  refine HT.out.mono ?_
  rintro e w1 ⟨rfl, h1, h2⟩
  have H1 := Lib.hid h1; have H2 := Lib.hid (grown_trans (World.grownBy_alloc w _ _) h2); clear h1 h2
  go_wp2_with fail
  go_ret
  have hk := HK.out
  subst hk
  exact ⟨rfl, H1.out, H2.out⟩

set_option maxHeartbeats 400000 in
theorem curDone (b : Nat) (s : ByteArray) (bad : Bool) (w : World) (hc : CurAt b s bad w) :
    Calls Try.prog 33 #[.pointer (some ⟨b, 0, none⟩)] w fun e w' => e = .returned (.bool (s.toList.isEmpty && !bad)) ∧ Below w.heap.size w w' := by
  obtain ⟨c0, c1, f0, f1⟩ := hc.cells
  clear hc
  go_enter Try.func33, Try.ntmps33
  go_wp2
  all_goals (go_ret; refine ⟨?_, Below.refl _ _⟩; simp [*])
end Go.Proofs.Ytkknagfeceljdaa
