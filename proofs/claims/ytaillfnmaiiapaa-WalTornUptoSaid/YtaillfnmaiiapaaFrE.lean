/-
  What the functions of package frame come to: Get as a whole, frames.
-/
import Derived.Test.YtaillfnmaiiapaaFrC
import Derived.Test.YtaillfnmaiiapaaFrN
import Derived.Test.YtaillfnmaiiapaaRangeV
import Derived.RangeFuncBound
import Derived.Shelf.Abstract
import Derived.Shelf.RegionOpen
import Derived.OwnWalkIn
import Derived.TacticsInMore
import Derived.LoopNIn
import Derived.LoopIn
namespace Go.Proofs.Ytaillfnmaiiapaa
open Go.RowKit Go.Shelf
attribute [local go_sem] Oper.semAt_some

theorem Get_any (s : ByteArray) (hs : s.size ≤ maxLen) (most : Int) (hm : Hid (-9223372036854775808 ≤ most ∧ most ≤ 9223372036854775807)) (w : World) :
    Calls Try.prog 84 #[.string s, .int .i64 most] w fun e w' => e = .returned (.tuple #[.string (Fr.get s most).1, .string (Fr.get s most).2.1, .int .i64 ((Fr.get s most).2.2 : Nat)]) ∧ Below w.heap.size w w' := by
  by_cases h : Fr.mayGo s = true ∨ (Fr.num s).2.2 = false ∨ most < 0 ∨ most < ((Fr.num s).1 : Int) ∨ s.size < (Fr.num s).2.1 + (Fr.num s).1 + 4
  · exact Get_no s hs most hm w h
  · have hok : (Fr.num s).2.2 = true := by
      cases hx : (Fr.num s).2.2 with
      | true => rfl
      | false => exact absurd (.inr (.inl hx)) h
    refine Get_yes s hs most hm w (Fr.num s).1 (Fr.num s).2.1 (by rw [← hok]) ?_ ?_
    · have h1 : ¬ most < ((Fr.num s).1 : Int) := fun e => h (.inr (.inr (.inr (.inl e))))
      omega
    · have h1 : ¬ s.size < (Fr.num s).2.1 + (Fr.num s).1 + 4 := fun e => h (.inr (.inr (.inr (.inr e))))
      omega

/-- the two boxes of the function that frames tells -/
def FBoxes (b : Nat) (s : ByteArray) (most : Int) (W : World) : Prop := W.heap[b]? = some (.cells #[.string s] 9 (0, 0)) ∧ W.heap[b + 1]? = some (.cells #[.int .i64 most] 3 (0, 0))
theorem FBoxes.keep {b : Nat} {s : ByteArray} {most : Int} {A B : World} (h : FBoxes b s most A) (h0 : B.heap[b]? = A.heap[b]?) (h1 : B.heap[b + 1]? = A.heap[b + 1]?) : FBoxes b s most B := ⟨h0.trans h.1, h1.trans h.2⟩
theorem FBoxes.later {b : Nat} {s : ByteArray} {most : Int} {A B : World} (h : FBoxes b s most A) (hb : Below A.heap.size A B) : FBoxes b s most B := ⟨heap_keep h.1 hb, heap_keep h.2 hb⟩
def FKeep (b : Nat) (A B : World) : Prop := B.heap[b]? = A.heap[b]? ∧ B.heap[b + 1]? = A.heap[b + 1]?
theorem FKeep.trans {b : Nat} {A B C : World} (h : FKeep b A B) (k : FKeep b B C) : FKeep b A C := ⟨k.1.trans h.1, k.2.trans h.2⟩

def strSz : Value → Nat
  | .string s => s.size
  | _ => 0

end Go.Proofs.Ytaillfnmaiiapaa
