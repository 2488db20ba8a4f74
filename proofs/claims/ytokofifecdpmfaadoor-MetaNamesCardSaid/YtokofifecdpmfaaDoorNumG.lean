/-
  What the functions of package num come to: the cursor's methods.
-/
import Derived.Test.YtokofifecdpmfaaDoorNumF
namespace Go.Proofs.YtokofifecdpmfaaDoor
open Go.RowKit

set_option maxHeartbeats 400000 in
theorem curSmall (b : Nat) (s : ByteArray) (hs : s.size ≤ maxLen) (bad : Bool) (w : World) (hc : CurAt b s bad w) :
    Calls Tryd.prog 46 #[.pointer (some ⟨b, 0, none⟩)] w fun e w' => e = .returned (.int .u64 ((Num.curV bad ((Num.decp 0 0 s.data.toList).2.2) (Num.decp 0 0 s.data.toList).1 0 : Nat) : Int)) ∧ CurAt b (Num.curV bad ((Num.decp 0 0 s.data.toList).2.2) (s.extract ((Num.decp 0 0 s.data.toList).2.1) s.size) s) (bad || !(Num.decp 0 0 s.data.toList).2.2) w' ∧ w.grownBy w' (some b) := by
  have ht := take_small b s hs bad w hc
  generalize (Num.decp 0 0 s.data.toList).1 = v at *
  generalize (Num.decp 0 0 s.data.toList).2.1 = n at *
  generalize (Num.decp 0 0 s.data.toList).2.2 = ok at *
  have HT := Lib.hid ht; clear ht hc
  go_enter Tryd.func46, Tryd.ntmps46
  go_wp2_with fail
  refine HT.out.mono ?_
  rintro e w1 ⟨rfl, h1, h2⟩
  have H1 := Lib.hid h1; have H2 := Lib.hid h2; clear h1 h2
  go_wp2_with fail
  go_ret
  exact ⟨rfl, H1.out, H2.out⟩

set_option maxHeartbeats 400000 in
theorem curWide (b : Nat) (s : ByteArray) (hs : s.size ≤ maxLen) (bad : Bool) (w : World) (hc : CurAt b s bad w) :
    Calls Tryd.prog 49 #[.pointer (some ⟨b, 0, none⟩)] w fun e w' => e = .returned (.int .u64 ((Num.curV bad ((decide (8 ≤ s.size))) (if decide (8 ≤ s.size) = true then Num.num (s.data.toList.take 8) else 0) 0 : Nat) : Int)) ∧ CurAt b (Num.curV bad ((decide (8 ≤ s.size))) (s.extract ((if decide (8 ≤ s.size) = true then 8 else 0)) s.size) s) (bad || !(decide (8 ≤ s.size))) w' ∧ w.grownBy w' (some b) := by
  have ht := take_wide b s hs bad w hc
  generalize (if decide (8 ≤ s.size) = true then Num.num (s.data.toList.take 8) else 0) = v at *
  generalize (if decide (8 ≤ s.size) = true then 8 else 0) = n at *
  generalize (decide (8 ≤ s.size)) = ok at *
  have HT := Lib.hid ht; clear ht hc
  go_enter Tryd.func49, Tryd.ntmps49
  go_wp2_with fail
  refine HT.out.mono ?_
  rintro e w1 ⟨rfl, h1, h2⟩
  have H1 := Lib.hid h1; have H2 := Lib.hid h2; clear h1 h2
  go_wp2_with fail
  go_ret
  exact ⟨rfl, H1.out, H2.out⟩

set_option maxHeartbeats 400000 in
theorem curTake (b : Nat) (s : ByteArray) (hs : s.size ≤ maxLen) (bad : Bool) (m : Int) (w : World) (hc : CurAt b s bad w) :
    Calls Tryd.prog 47 #[.pointer (some ⟨b, 0, none⟩), .int .i64 m] w fun e w' => e = .returned (.string (Num.curV bad ((Num.tOk m s)) ((if Num.tOk m s = true then s.extract 0 m.toNat else ByteArray.empty)) ByteArray.empty)) ∧ CurAt b (Num.curV bad ((Num.tOk m s)) (s.extract ((if Num.tOk m s = true then m.toNat else 0)) s.size) s) (bad || !(Num.tOk m s)) w' ∧ w.grownBy w' (some b) := by
  have hc1 : CurAt b s bad (w.alloc (.cells #[.int .i64 m] 3)) := heap_keep hc ((Below.refl _ w).alloc (Nat.le_refl _) _)
  have ht := take_take b s hs bad m w.heap.size (w.alloc (.cells #[.int .i64 m] 3)) hc1 (cell_of_row _ _ 0 _ _ _ (heap_alloc_new w _))
  generalize (if Num.tOk m s = true then s.extract 0 m.toNat else ByteArray.empty) = v at *
  generalize (if Num.tOk m s = true then m.toNat else 0) = n at *
  generalize (Num.tOk m s) = ok at *
  have HT := Lib.hid ht; clear ht hc hc1
  go_enter Tryd.func47, Tryd.ntmps47
  go_wp2_with fail
  refine HT.out.mono ?_
  rintro e w1 ⟨rfl, h1, h2⟩
  have H1 := Lib.hid h1; have H2 := Lib.hid (grown_trans (World.grownBy_alloc w _ _) h2); clear h1 h2
  go_wp2_with fail
  go_ret
  exact ⟨rfl, H1.out, H2.out⟩

end Go.Proofs.YtokofifecdpmfaaDoor
