/-
  What the functions of package num come to: the cursor's methods.
-/
import Derived.Test.YtieoncjdhileoaaNumF
namespace Go.Proofs.Ytieoncjdhileoaa
open Go.RowKit

set_option maxHeartbeats 400000 in
theorem curText (b : Nat) (s : ByteArray) (hs : s.size ≤ maxLen) (bad : Bool) (m : Int) (hm : Hid (-9223372036854775808 ≤ m ∧ m ≤ 9223372036854775807)) (w : World) (hc : CurAt b s bad w) :
    Calls Try.prog 42 #[.pointer (some ⟨b, 0, none⟩), .int .i64 m] w fun e w' => e = .returned (.string (Num.curV bad ((Num.xOk m s)) ((if Num.xOk m s = true then Num.xV s else ByteArray.empty)) ByteArray.empty)) ∧ CurAt b (Num.curV bad ((Num.xOk m s)) (s.extract ((if Num.xOk m s = true then Num.xN s else 0)) s.size) s) (bad || !(Num.xOk m s)) w' ∧ w.grownBy w' (some b) := by
  have hc1 : CurAt b s bad (w.alloc (.cells #[.int .i64 m] 3)) := heap_keep hc ((Below.refl _ w).alloc (Nat.le_refl _) _)
  have ht := take_text b s hs bad m hm w.heap.size (w.alloc (.cells #[.int .i64 m] 3)) hc1 (cell_of_row _ _ 0 _ _ _ (heap_alloc_new w _))
  generalize (if Num.xOk m s = true then Num.xV s else ByteArray.empty) = v at *
  generalize (if Num.xOk m s = true then Num.xN s else 0) = n at *
  generalize (Num.xOk m s) = ok at *
  have HT := Lib.hid ht; clear ht hc hc1
  go_enter Try.func42, Try.ntmps42
  go_wp2_with fail
  refine HT.out.mono ?_
  rintro e w1 ⟨rfl, h1, h2⟩
  have H1 := Lib.hid h1; have H2 := Lib.hid (grown_trans (World.grownBy_alloc w _ _) h2); clear h1 h2
  go_wp2_with fail
  go_ret
  exact ⟨rfl, H1.out, H2.out⟩

set_option maxHeartbeats 400000 in
theorem curDone (b : Nat) (s : ByteArray) (bad : Bool) (w : World) (hc : CurAt b s bad w) :
    Calls Try.prog 43 #[.pointer (some ⟨b, 0, none⟩)] w fun e w' => e = .returned (.bool (s.toList.isEmpty && !bad)) ∧ Below w.heap.size w w' := by
  obtain ⟨c0, c1, f0, f1⟩ := hc.cells
  clear hc
  go_enter Try.func43, Try.ntmps43
  go_wp2
  all_goals (go_ret; refine ⟨?_, Below.refl _ _⟩; simp [*])
end Go.Proofs.Ytieoncjdhileoaa
