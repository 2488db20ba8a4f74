/-
  What the functions of package frame come to: Get as a whole, frames.
-/
import Derived.Test.YteohhcnadoaciaaFrC
import Derived.Test.YteohhcnadoaciaaFrN
import Derived.Test.YteohhcnadoaciaaRangeV
import Derived.RangeFuncBound
import Derived.Shelf.Abstract
import Derived.Shelf.RegionOpen
import Derived.OwnWalkIn
import Derived.TacticsInMore
import Derived.LoopNIn
import Derived.LoopIn
namespace Go.Proofs.Yteohhcnadoaciaa
open Go.RowKit Go.Shelf
attribute [local go_sem] Oper.semAt_some

theorem Get_any (s : ByteArray) (hs : s.size ≤ maxLen) (most : Int) (hm : Hid (-9223372036854775808 ≤ most ∧ most ≤ 9223372036854775807)) (w : World) :
    Calls Try.prog 14 #[.string s, .int .i64 most] w fun e w' => e = .returned (.tuple #[.string (Fr.get s most).1, .string (Fr.get s most).2.1, .int .i64 ((Fr.get s most).2.2 : Nat)]) ∧ Below w.heap.size w w' := by
  by_cases h : Fr.mayGo s = true ∨ (Fr.num s).2.2 = false ∨ most < 0 ∨ most < ((Fr.num s).1 : Int) ∨ s.size < (Fr.num s).2.1 + (Fr.num s).1 + 4
  · exact Get_no s hs most hm w h
  · have hok : (Fr.num s).2.2 = true := by
      cases hx : (Fr.num s).2.2 with
      | true => rfl
      | false => exact absurd (.inr (.inl hx)) h
    refine Get_yes s hs most hm w (Fr.num s).1 (Fr.num s).2.1 (by rw [← hok]) ?_ ?_
    · have h1 : ¬ most < ((Fr.num s).1 : Int) := fun e => h (.inr (.inr (.inr (.inl e))))
      omega
    · have h1 : ¬ s.size < (Fr.num s).2.1 + (Fr.num s).1 + 4 := fun e => h (.inr (.inr (.inr (.inr e))))
      omega

/-- the two boxes of the function that frames tells -/
def FBoxes (b : Nat) (s : ByteArray) (most : Int) (W : World) : Prop := W.heap[b]? = some (.cells #[.string s] 9 (0, 0)) ∧ W.heap[b + 1]? = some (.cells #[.int .i64 most] 3 (0, 0))
theorem FBoxes.keep {b : Nat} {s : ByteArray} {most : Int} {A B : World} (h : FBoxes b s most A) (h0 : B.heap[b]? = A.heap[b]?) (h1 : B.heap[b + 1]? = A.heap[b + 1]?) : FBoxes b s most B := ⟨h0.trans h.1, h1.trans h.2⟩
theorem FBoxes.later {b : Nat} {s : ByteArray} {most : Int} {A B : World} (h : FBoxes b s most A) (hb : Below A.heap.size A B) : FBoxes b s most B := ⟨heap_keep h.1 hb, heap_keep h.2 hb⟩
def FKeep (b : Nat) (A B : World) : Prop := B.heap[b]? = A.heap[b]? ∧ B.heap[b + 1]? = A.heap[b + 1]?
theorem FKeep.trans {b : Nat} {A B C : World} (h : FKeep b A B) (k : FKeep b B C) : FKeep b A C := ⟨k.1.trans h.1, k.2.trans h.2⟩

theorem frames_any (s : ByteArray) (most : Int) (w : World) : Calls Try.prog 26 #[.string s, .int .i64 most] w fun e w' =>
    e = .returned (.func (.func 35) #[] #[.pointer (some ⟨w.heap.size, 0, none⟩), .pointer (some ⟨w.heap.size + 1, 0, none⟩)]) ∧ w' = (w.alloc (.cells #[.string s] 9)).alloc (.cells #[.int .i64 most] 3) := by
  go_enter Try.func26, Try.ntmps26
  go_wp2_with fail
  go_ret
  exact ⟨rfl, rfl⟩

def strSz : Value → Nat
  | .string s => s.size
  | _ => 0

set_option maxRecDepth 100000 in
set_option maxHeartbeats 1000000 in
theorem frames_iter (b : Nat) (s : ByteArray) (hs : s.size ≤ maxLen) (most : Int) (hm : Hid (-9223372036854775808 ≤ most ∧ most ≤ 9223372036854775807)) (w : World) (hbx : FBoxes b s most w) :
    Iterates Try.prog 35 #[.pointer (some ⟨b, 0, none⟩), .pointer (some ⟨b + 1, 0, none⟩)] (fun t : ByteArray => #[.string (Fr.get t most).1, .string (Fr.get t most).2.1]) (fun t => decide ((Fr.get t most).2.2 = 0)) (fun t => (Fr.get t most).2.1) (FKeep b) s w := by
  intro l J X W hK _ hJ hY h0
  have hB : FBoxes b s most W := hbx.keep hK.1 hK.2
  have c1 : W.cell? ⟨b, 0, none⟩ = some (.string s) := cell_of_row _ _ _ _ _ _ hB.1
  have c2 : W.cell? ⟨b + 1, 0, none⟩ = some (.int .i64 most) := cell_of_row _ _ _ _ _ _ hB.2
  refine callsIn_of_wp Try.func35 rfl trivial ?_ rfl
  simp only [Try.ntmps35, List.size_toArray, List.length_cons, List.length_nil, Nat.reduceAdd, Nat.reduceSub, Array.replicate_succ, Array.replicate_zero, List.push_toArray, List.append_toArray, List.nil_append, List.cons_append]
  have HB := Lib.hid hB; have HJ0 := Lib.hid h0; have HS := Lib.hid hs; clear hB h0 hbx hK hs
  have HJ := Lib.hid hJ; have HY := Lib.hid hY; clear hJ hY
  gi_wp2_with fail
  refine ⟨trivial, ?_⟩
  refine (callsIn_wide.2 (Get_any s HS.out most hm _)).mono ?_
  rintro e w1 ⟨rfl, hb1⟩
  have HJ1 := Lib.hid (HJ.out _ _ _ HJ0.out (grown_of_below hb1)); have HB1 := Lib.hid (HB.out.later hb1)
  clear hb1 HJ0 HB c1 c2
  gi_wp2_with fail
  gi_loopw [4, 5, 6] (fun x r sh wr => ∃ t : ByteArray, t.size ≤ s.size ∧ x = .string (Fr.get t most).1 ∧ r = .string (Fr.get t most).2.1 ∧ sh = .int .i64 ((Fr.get t most).2.2 : Nat) ∧ J t wr ∧ FBoxes b s most wr) (fun _ r sh _ => 2 * strSz r + (1 - (intOf sh).toNat))
  case atStart => exact ⟨s, Nat.le_refl _, rfl, rfl, rfl, HJ1.out, HB1.out⟩
  case round =>
    obtain ⟨t, ht, rfl, rfl, rfl, hj, hb⟩ := hrel
    have c2 : wr.cell? ⟨b + 1, 0, none⟩ = some (.int .i64 most) := cell_of_row _ _ _ _ _ _ hb.2
    have HBr := Lib.hid hb; have HJr := Lib.hid hj; clear hb hj
    by_cases hz : (Fr.get t most).2.2 = 0
    · obtain ⟨fn, tmps, assign, body, hy, hR⟩ := HY.out t wr HJr.out (by simpa using hz)
      have hless := Fr.get_less t most hz
      have HZ := Lib.hid hz
      have hnx := fun W => Get_any (Fr.get t most).2.1 (by have := HS.out; omega) most hm W
      generalize hg1 : (Fr.get t most).1 = g1 at *
      generalize hg2 : (Fr.get t most).2.1 = g2 at *
      rw [hz]
      have hsh : (Fr.get g2 most).2.2 ≤ 2 := Fr.get_shape g2 most
      have hrest : (Fr.get g2 most).2.2 = 0 → (Fr.get g2 most).2.1.size + 5 ≤ g2.size := Fr.get_less g2 most
      have hrest2 : (Fr.get g2 most).2.2 ≠ 0 → (Fr.get g2 most).2.1 = g2 := fun h => (Fr.get_not g2 most h).2
      have HG1 := Lib.hid hg1; have HG2 := Lib.hid hg2; have HNX := Lib.hid hnx; have HR1 := Lib.hid hrest; have HR2 := Lib.hid hrest2; have HLS := Lib.hid hless; have HSH := Lib.hid hsh
      clear hz hg1 hg2 hnx hrest hrest2 hless hsh
      gi_wp2
      refine hR.mono ?_
      rintro e W3 (⟨rfl, hJ3, hk3⟩ | ⟨rfl, hx3⟩)
      · have hb3 := HBr.out.keep hk3.1 hk3.2
        have HJ3 := Lib.hid hJ3
        have HB3 := Lib.hid hb3
        clear c2
        have c2 : W3.cell? ⟨b + 1, 0, none⟩ = some (.int .i64 most) := cell_of_row _ _ _ _ _ _ hb3.2
        clear hJ3 hk3 hb3
        gi_wp2_with fail
        refine ⟨trivial, ?_⟩
        refine (callsIn_wide.2 (HNX.out _)).mono ?_
        rintro e w4 ⟨rfl, hb4⟩
        have HJ4 := Lib.hid (HJ.out _ _ _ HJ3.out (grown_of_below hb4)); have HB4 := Lib.hid (HB3.out.later hb4)
        clear hb4
        gi_wp2_with fail
        go_roundw
        case rel => exact ⟨g2, by have := HLS.out; omega, rfl, rfl, rfl, HJ4.out, HB4.out⟩
        case measure =>
          have h1 := HR1.out; have h2 := HR2.out; have h3 := HSH.out
          by_cases hz : (Fr.get g2 most).2.2 = 0
          · have := h1 hz; simp [intOf, strSz]; omega
          · rw [h2 hz]; simp [intOf, strSz]; omega
      · have HX3 := Lib.hid hx3; clear hx3
        gi_wp2
        go_end0
        exact ⟨⟨_, rfl⟩, .inr ⟨t, HX3.out⟩⟩
    · have hne : (((Fr.get t most).2.2 : Int) == 0) = false := by simp; omega
      have HZ := Lib.hid hz; clear hz
      generalize hE : (Fr.get t most).2.2 = sh at hne ⊢
      clear hE
      gi_wp2_with fail
      refine ⟨(fun _ h => (by cases h)), ?_⟩
      gi_wp2
      go_end0
      exact ⟨⟨_, rfl⟩, .inl ⟨t, by simpa using HZ.out, HJr.out⟩⟩
end Go.Proofs.Yteohhcnadoaciaa
