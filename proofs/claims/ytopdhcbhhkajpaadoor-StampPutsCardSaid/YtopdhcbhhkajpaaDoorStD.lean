/-
  What All of package stamp comes to.
-/
import Derived.Test.YtopdhcbhhkajpaaDoorStC
import Derived.Test.YtopdhcbhhkajpaaDoorInts
namespace Go.Proofs.YtopdhcbhhkajpaaDoor
open Go.RowKit

/-- the state behind the first k times; their bits -/
def St.after (f : Nat → Int) : Nat → St.S
  | 0 => ⟨0, 0, 0⟩
  | k + 1 => (St.after f k).next (f k)
def St.bits (f : Nat → Int) : Nat → List Bool
  | 0 => []
  | k + 1 => St.bits f k ++ (St.after f k).code (f k)
theorem St.S.cost_le (s : St.S) (t : Int) : s.cost t ≤ 68 := by
  unfold St.S.cost
  split
  · omega
  · have h1 : ∀ k, St.marks k ≤ 4 := fun k => by unfold St.marks; split <;> omega
    have h2 : ∀ k, St.size k ≤ 64 := fun k => by unfold St.size; split <;> omega
    have := h1 (St.cls (s.change t)); have := h2 (St.cls (s.change t)); omega
theorem St.bits_length (f : Nat → Int) : ∀ k, (St.bits f k).length ≤ 68 * k
  | 0 => by simp [St.bits]
  | k + 1 => by
    have := St.bits_length f k
    have := (St.after f k).cost_le (f k)
    simp only [St.bits, List.length_append, St.S.code_length]; omega
def StateAt (W : World) (g : Nat) (s : St.S) : Prop := W.heap[g]? = some (.cells #[.int .i64 s.n, .int .i64 s.t, .int .i64 s.d] 23 (0, 0))

theorem StateAt.set {W : World} {g : Nat} {s : St.S} (h : StateAt W g s) (n t d : Int) : StateAt (((W.setCell ⟨g, 0, none⟩ (.int .i64 n)).setCell ⟨g, 1, none⟩ (.int .i64 t)).setCell ⟨g, 2, none⟩ (.int .i64 d)) g ⟨n, t, d⟩ := by
  unfold StateAt at *
  simp [World.setCell, Array.getElem?_modify, h]
set_option maxRecDepth 100000 in
set_option maxHeartbeats 1000000 in
theorem stAll_any (w : World) (hT : ClsOk w) (A : Option Addr) (len cap : Nat) (f : Nat → Int) (hlen : len ≤ 1000) (hA : IntRow w A len .i64 f) :
    Calls Tryd.prog 27 #[.slice A len cap] w fun e w' => e = .returned (.string (Bit.text (St.bits f len))) ∧ Below w.heap.size w w' := by
  have HA := Lib.hid hA; have HT := Lib.hid hT; clear hA hT
  go_enter Tryd.func27, Tryd.ntmps27
  go_wp2_with fail
  refine (NewWriter_any _).mono ?_; rintro e w2 ⟨rfl, hw2⟩
  have hwr : WrAt w2 w.heap.size w.heap.size none 0 [] := by rw [hw2]; exact WrAt.new w _
  have hb2 : Below w.heap.size w w2 := by rw [hw2]; exact (Below.refl _ _).alloc (Nat.le_refl _) _
  have HWr := Lib.hid hwr; have HB2 := Lib.hid hb2; clear hwr hb2 hw2
  go_wp2_with fail
  go_loopw [9] (fun i wr => ∃ (k : Nat) (A2 : Option Addr) (cap2 : Nat), k ≤ len ∧ i = .int .i64 k ∧ WrAt wr w.heap.size w.heap.size A2 cap2 (St.bits f k) ∧ StateAt wr w2.heap.size (St.after f k) ∧ Below w.heap.size w wr) (fun i _ => len - (intOf i).toNat)
  case atStart => exact ⟨0, none, 0, by omega, rfl, HWr.out.later ((Below.refl _ _).alloc (Nat.le_refl _) _), RowIs.one _ _, HB2.out.alloc HB2.out.size _⟩
  case round =>
    obtain ⟨k, A2, cap2, hk, rfl, hw, hs, hb⟩ := hrel
    have HW := Lib.hid hw; have HB := Lib.hid hb; have HS := Lib.hid hs; clear hw hb hs
    have hB := St.bits_length f k
    by_cases hlt : k < len
    · obtain ⟨ad, rfl, c0, wf0⟩ := HA.out.at_ HB.out hlt
      have HTk : Hid (ClsOk wr) := Lib.hid (HT.out.later HB.out)
      have e0 := cell_of_row _ _ 0 _ _ _ HS.out
      have e1 := cell_of_row _ _ 1 _ _ _ HS.out
      have e2 := cell_of_row _ _ 2 _ _ _ HS.out
      simp at e0 e1 e2
      go_wp2_with fail
      refine plain_still_tail 6 (by kernel_rfl) (by kernel_rfl) ?_
      simp only [List.take_succ_cons, List.take_zero, List.drop_succ_cons, List.drop_zero]
      repeat still_step
      refine wpStill_nil ?_
      go_wp2_with fail
      refine (stPut_any w.heap.size w.heap.size A2 cap2 (St.bits f k) (by omega) (St.after f k) (f k) wr.drew (fun k hk j hj => HTk.out k hk j hj) HW.out.drew (by have := HB.out.size; exact this)).mono ?_
      rintro e w3 ⟨rfl, A3, cap3, hw3, hN, hF⟩
      have hgp : w.heap.size < w2.heap.size := HWr.out.lt
      have hgl : w2.heap.size < wr.heap.size := (Array.getElem?_eq_some_iff.1 HS.out).1
      have hs3 : StateAt w3 w2.heap.size (St.after f k) := (hF.undrew.same _ hgl (row_not HW.out HS.out (by decide) (by omega))).trans HS.out
      have hb3 : Below w.heap.size w w3 := HB.out.trans (hF.undrew.below HB.out.size (putSet_base HW.out (Nat.le_refl _)))
      have hnew := hs3.set (St.after f (k + 1)).n (St.after f (k + 1)).t (St.after f (k + 1)).d
      have hbn : Below w.heap.size w _ := hb3.grown (grown_three w3 w2.heap.size 0 1 2 (.int .i64 (St.after f (k + 1)).n) (.int .i64 (St.after f (k + 1)).t) (.int .i64 (St.after f (k + 1)).d)) hb3.size (fun r e => by cases e; omega)
      have hwn : WrAt _ w.heap.size w.heap.size A3 cap3 (St.bits f (k + 1)) := RowAt.keep hw3 ((grown_three w3 w2.heap.size 0 1 2 (.int .i64 (St.after f (k + 1)).n) (.int .i64 (St.after f (k + 1)).t) (.int .i64 (St.after f (k + 1)).d)).block _ hw3.lt (by simp; omega))
        (fun g hg => (grown_three w3 w2.heap.size 0 1 2 (.int .i64 (St.after f (k + 1)).n) (.int .i64 (St.after f (k + 1)).t) (.int .i64 (St.after f (k + 1)).d)).block _ (by subst hg; exact (row_block hw3.own rfl).2.1) (by
          have hne : g ≠ w2.heap.size := by subst hg; exact own_ne hw3.own hs3 (by decide)
          simp; omega))
      have r0 := cell_of_row _ _ 0 _ _ _ hs3
      have r1 := cell_of_row _ _ 1 _ _ _ hs3
      have r2 := cell_of_row _ _ 2 _ _ _ hs3
      have f0 := frozen_of_row _ _ 0 _ _ hs3
      have f1 := frozen_of_row _ _ 1 _ _ hs3
      have f2 := frozen_of_row _ _ 2 _ _ hs3
      simp at r0 r1 r2
      have HN := Lib.hid hnew; have HBN := Lib.hid hbn; have HWN := Lib.hid hwn
      rw [show ((St.after f k).next (f k)).val = .agg #[.int .i64 (St.after f (k + 1)).n, .int .i64 (St.after f (k + 1)).t, .int .i64 (St.after f (k + 1)).d] from rfl]
      have HE : Hid ((⟨(St.after f (k + 1)).n, (St.after f (k + 1)).t, (St.after f (k + 1)).d⟩ : St.S) = St.after f (k + 1)) := Lib.hid rfl
      generalize (St.after f (k + 1)).n = n3 at *
      generalize (St.after f (k + 1)).t = t3 at *
      generalize (St.after f (k + 1)).d = d3 at *
      clear hnew hbn hwn hs3 hb3 hw3 hN hF HW HS
      go_wp2_with fail
      go_roundw
      case rel => exact ⟨k + 1, A3, cap3, by omega, by go_num, HWN.out, by rw [← HE.out]; exact HN.out, HBN.out⟩
      case measure => simp [intOf]; omega
    · obtain rfl : k = len := by omega
      go_wp2_with fail
      refine (Bytes_any _ HW.out).mono ?_; rintro e wx ⟨rfl, rfl⟩
      go_wp2_with fail
      go_ret
      exact ⟨rfl, HB.out⟩
end Go.Proofs.YtopdhcbhhkajpaaDoor
