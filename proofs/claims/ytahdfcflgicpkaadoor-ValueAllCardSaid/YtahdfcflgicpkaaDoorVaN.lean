/-
  What Begin and Valid of the document's answer for package value come to.
-/
import Derived.Test.YtahdfcflgicpkaaDoorVaA
namespace Go.Proofs.YtahdfcflgicpkaaDoor
open Go.RowKit
def RVStAt (W : World) (g : Nat) (s : Va.S) : Prop := W.heap[g]? = some (.cells #[.int .i64 s.n, .int .u64 s.v, .int .i64 s.l, .int .i64 s.t] 46 (0, 0))
theorem RVStAt.lt {W : World} {g : Nat} {s : Va.S} (h : RVStAt W g s) : g < W.heap.size := (Array.getElem?_eq_some_iff.1 h).1
theorem RVStAt.later {W W2 : World} {g : Nat} {s : Va.S} (h : RVStAt W g s) (hb : Below W.heap.size W W2) : RVStAt W2 g s := (hb.block g h.lt).trans h
theorem RVStAt.cells {W : World} {g : Nat} {s : Va.S} (h : RVStAt W g s) : W.cell? ⟨g, 0, none⟩ = some (.int .i64 s.n) ∧ W.cell? ⟨g, 1, none⟩ = some (.int .u64 s.v) ∧ W.cell? ⟨g, 2, none⟩ = some (.int .i64 s.l) ∧ W.cell? ⟨g, 3, none⟩ = some (.int .i64 s.t) :=
  ⟨cell_of_row _ _ 0 _ _ _ h, cell_of_row _ _ 1 _ _ _ h, cell_of_row _ _ 2 _ _ _ h, cell_of_row _ _ 3 _ _ _ h⟩
theorem RVStAt.free {W : World} {g : Nat} {s : Va.S} (h : RVStAt W g s) : W.frozen? ⟨g, 0, none⟩ = false ∧ W.frozen? ⟨g, 1, none⟩ = false ∧ W.frozen? ⟨g, 2, none⟩ = false ∧ W.frozen? ⟨g, 3, none⟩ = false :=
  ⟨frozen_of_row _ _ _ _ _ h, frozen_of_row _ _ _ _ _ h, frozen_of_row _ _ _ _ _ h, frozen_of_row _ _ _ _ _ h⟩
theorem RVStAt.set {W : World} {g : Nat} {s : Va.S} (h : RVStAt W g s) (x : Va.S) : RVStAt ((((W.setCell ⟨g, 0, none⟩ (.int .i64 x.n)).setCell ⟨g, 1, none⟩ (.int .u64 x.v)).setCell ⟨g, 2, none⟩ (.int .i64 x.l)).setCell ⟨g, 3, none⟩ (.int .i64 x.t)) g x := by
  unfold RVStAt at *
  simp [World.setCell, Array.getElem?_modify, h]
theorem RVStAt.window {W : World} {g : Nat} {s : Va.S} (h : RVStAt W g s) (l t : Nat) : RVStAt ((W.setCell ⟨g, 2, none⟩ (.int .i64 l)).setCell ⟨g, 3, none⟩ (.int .i64 t)) g ⟨s.n, s.v, l, t⟩ := by
  unfold RVStAt at *
  simp [World.setCell, Array.getElem?_modify, h]
theorem RVStAt.grown {W W2 : World} {g : Nat} {s : Va.S} {row : Option Nat} (h : RVStAt W g s) (hg : W.grownBy W2 row) (hne : some g ≠ row) : RVStAt W2 g s := (hg.block g h.lt hne).trans h
set_option maxRecDepth 100000 in
set_option maxHeartbeats 1000000 in
theorem rVBegin_any (w : World) :
    Calls Tryd.prog 23 #[] w fun e w' => e = .returned (Va.S.val ⟨0, 0, 64, 0⟩) ∧ Below w.heap.size w w' := by
  go_enter Tryd.func23, Tryd.ntmps23
  go_wp2_with fail
  refine bodyPost_ret (v := .agg #[.int .i64 0, .int .u64 0, .int .i64 64, .int .i64 0]) ?_ rfl ⟨rfl, ?_⟩
  · simp [results, go_sem]
    try rfl
  · exact (Below.refl _ _).alloc (Nat.le_refl _) _
set_option maxRecDepth 100000 in
set_option maxHeartbeats 1000000 in
theorem rVValid_any (s : Va.S) (hok : s.ok) (w : World) :
    Calls Tryd.prog 37 #[s.val] w fun e w' => e = .returned (.bool true) ∧ Below w.heap.size w w' := by
  obtain ⟨n, v, l, t⟩ := s
  have hw := hok.w
  have hn := hok.n
  unfold Va.S.val
  simp only at hw hn ⊢
  have HB : Hid (Below w.heap.size w (w.alloc (.cells #[.int .i64 n, .int .u64 v, .int .i64 l, .int .i64 t] 46))) := Lib.hid ((Below.refl _ _).alloc (Nat.le_refl _) _)
  have d0 : decide ((n : Int) < 0) = false := by simp
  have d1 : decide ((l : Int) < 0) = false := by simp
  have d2 : decide ((t : Int) < 0) = false := by simp
  rcases hw with ⟨rfl, rfl⟩ | hlt
  · go_enter Tryd.func37, Tryd.ntmps37
    go_wp2_with fail
    go_ret
    exact ⟨rfl, HB.out⟩
  · have d3 : decide ((l : Int) < 64) = true := by simp; omega
    have d4 : decide ((t : Int) < 64) = true := by simp; omega
    have d5 : decide ((l : Int) + (t : Int) < 64) = true := by simp; omega
    go_enter Tryd.func37, Tryd.ntmps37
    go_wp2_with fail
    go_ret
    exact ⟨rfl, HB.out⟩
/-- a piece of the sixty four bits is the window's bits -/
theorem Va.piece (x l t : Nat) (h : l + t ≤ 64) : (Bit.str (Bit.of x 64)).extract l (64 - t) = Bit.str (Bit.of (x / 2 ^ t) (64 - l - t)) := by
  rw [Bit.str_extract]
  congr 1
  have e1 : Bit.of x 64 = Bit.of (x / 2 ^ (64 - l)) l ++ (Bit.of (x / 2 ^ t) (64 - l - t) ++ Bit.of x t) := by
    rw [← Bit.of_append x (64 - l - t) t, show 64 - l - t + t = 64 - l from by omega, ← Bit.of_append x l (64 - l), show l + (64 - l) = 64 from by omega]
  rw [e1, List.drop_left' (Bit.of_length _ _), List.take_left' (by rw [Bit.of_length]; omega)]
end Go.Proofs.YtahdfcflgicpkaaDoor
