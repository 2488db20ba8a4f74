/-
  What the functions of package num come to: the cursor's calls.
-/
import Derived.Test.YtokofifecdpmfaaDoorNumE
namespace Go.Proofs.YtokofifecdpmfaaDoor
open Go.RowKit

namespace Num
def fAll (k : Nat) (s : ByteArray) : Bool := decide (k < s.size ∧ byteAt s k ≤ k) && fOk k s
def fN (k : Nat) (s : ByteArray) : Nat := if k < s.size ∧ byteAt s k ≤ k then k + 1 else 0
def fT (k : Nat) (s : ByteArray) : ByteArray := if k < s.size ∧ byteAt s k ≤ k then fV k s else ByteArray.empty
theorem xN_le (m : Int) (s : ByteArray) (h : xOk m s = true) : xN s ≤ s.size := by
  unfold xOk at h
  simp only [Bool.and_eq_true, decide_eq_true_eq] at h
  unfold xN; omega
theorem fN_le (k : Nat) (s : ByteArray) (h : fAll k s = true) : fN k s ≤ s.size := by
  unfold fAll at h
  simp only [Bool.and_eq_true, decide_eq_true_eq] at h
  unfold fN; rw [if_pos h.1]; omega
theorem tN_le (m : Int) (s : ByteArray) (h : tOk m s = true) : m.toNat ≤ s.size := by
  unfold tOk at h
  simp only [decide_eq_true_eq] at h
  omega
end Num
set_option maxRecDepth 100000 in
set_option maxHeartbeats 400000 in
theorem take_wide (b : Nat) (s : ByteArray) (hs : s.size ≤ maxLen) (bad : Bool) (w : World) (hc : CurAt b s bad w) :
    Calls Tryd.prog 65 #[.pointer (some ⟨b, 0, none⟩), .func (.func 69) #[] #[]] w fun e w' => e = .returned (.int .u64 ((Num.curV bad ((decide (8 ≤ s.size))) ((if decide (8 ≤ s.size) = true then Num.num (s.data.toList.take 8) else 0)) 0 : Nat) : Int)) ∧ CurAt b (Num.curV bad ((decide (8 ≤ s.size))) (s.extract ((if decide (8 ≤ s.size) = true then 8 else 0)) s.size) s) (bad || !(decide (8 ≤ s.size))) w' ∧ w.grownBy w' (some b) := by
  have hn : (decide (8 ≤ s.size)) = true → (if decide (8 ≤ s.size) = true then 8 else 0) ≤ s.size := fun h => by rw [if_pos h]; simpa using h
  have hcall := fun W (hW : Below w.heap.size w W) => (wide_fn s hs W).mono (R' := fun e w' => e = .returned (.tuple #[.int .u64 ((if decide (8 ≤ s.size) = true then Num.num (s.data.toList.take 8) else 0) : Nat), .int .i64 ((if decide (8 ≤ s.size) = true then 8 else 0) : Nat), .bool (decide (8 ≤ s.size))]) ∧ Below w.heap.size w w') (fun e w' ⟨h1, h2⟩ => ⟨h1, h2 ▸ hW⟩)
  obtain ⟨c0, c1, f0, f1⟩ := hc.cells
  have HC := Lib.hid hc; have HCALL := Lib.hid hcall; have HN := Lib.hid hn
  clear hc hcall hn
  unfold maxLen at hs
  generalize (if decide (8 ≤ s.size) = true then Num.num (s.data.toList.take 8) else 0) = v at *
  generalize (if decide (8 ≤ s.size) = true then 8 else 0) = n at *
  generalize (decide (8 ≤ s.size)) = ok at *
  cases bad
  · go_enter Tryd.func65, Tryd.ntmps65
    go_wp2_with fail
    refine (HCALL.out _ (Below.refl _ _)).mono ?_
    rintro e w1 ⟨rfl, hb⟩
    have HC1 : Hid (CurAt b s false w1) := heap_keep HC.out hb
    have HG := Lib.hid (grown_of_below (row := some b) hb)
    clear hb c0 c1 f0 f1
    obtain ⟨c0, c1, f0, f1⟩ := HC1.out.cells
    cases ok
    · go_wp2
      go_ret
      exact ⟨rfl, HC1.out.putBad true, grown_trans HG.out (grown_setCell _ _ _ _)⟩
    · have h1 : (0 : Int) ≤ (n : Int) := by omega
      have h2 : (n : Int) ≤ s.size := by have := HN.out rfl; omega
      go_wp2
      go_ret
      exact ⟨rfl, HC1.out.putS _, grown_trans HG.out (grown_setCell _ _ _ _)⟩
  · go_enter Tryd.func65, Tryd.ntmps65
    go_wp2
    go_ret
    exact ⟨rfl, HC.out, grown_refl _ _⟩

set_option maxRecDepth 100000 in
set_option maxHeartbeats 400000 in
theorem take_take (b : Nat) (s : ByteArray) (hs : s.size ≤ maxLen) (bad : Bool) (m : Int) (x : Nat) (w : World) (hc : CurAt b s bad w) (hx : w.cell? ⟨x, 0, none⟩ = some (.int .i64 m)) :
    Calls Tryd.prog 67 #[.pointer (some ⟨b, 0, none⟩), .func (.func 68) #[] #[.pointer (some ⟨x, 0, none⟩)]] w fun e w' => e = .returned (.string (Num.curV bad ((Num.tOk m s)) ((if Num.tOk m s = true then s.extract 0 m.toNat else ByteArray.empty)) ByteArray.empty)) ∧ CurAt b (Num.curV bad ((Num.tOk m s)) (s.extract ((if Num.tOk m s = true then m.toNat else 0)) s.size) s) (bad || !(Num.tOk m s)) w' ∧ w.grownBy w' (some b) := by
  have hn : (Num.tOk m s) = true → (if Num.tOk m s = true then m.toNat else 0) ≤ s.size := fun h => by rw [if_pos h]; exact Num.tN_le m s h
  have hcall := fun W (hW : Below w.heap.size w W) => (take_fn s hs m x W (cell_keep hx hW)).mono (R' := fun e w' => e = .returned (.tuple #[.string (if Num.tOk m s = true then s.extract 0 m.toNat else ByteArray.empty), .int .i64 ((if Num.tOk m s = true then m.toNat else 0) : Nat), .bool (Num.tOk m s)]) ∧ Below w.heap.size w w') (fun e w' ⟨h1, h2⟩ => ⟨h1, hW.trans (h2.mono hW.size)⟩)
  obtain ⟨c0, c1, f0, f1⟩ := hc.cells
  have HC := Lib.hid hc; have HCALL := Lib.hid hcall; have HN := Lib.hid hn
  clear hc hcall hn
  unfold maxLen at hs
  generalize (if Num.tOk m s = true then s.extract 0 m.toNat else ByteArray.empty) = v at *
  generalize (if Num.tOk m s = true then m.toNat else 0) = n at *
  generalize (Num.tOk m s) = ok at *
  clear hx
  cases bad
  · go_enter Tryd.func67, Tryd.ntmps67
    go_wp2_with fail
    refine (HCALL.out _ (Below.refl _ _)).mono ?_
    rintro e w1 ⟨rfl, hb⟩
    have HC1 : Hid (CurAt b s false w1) := heap_keep HC.out hb
    have HG := Lib.hid (grown_of_below (row := some b) hb)
    clear hb c0 c1 f0 f1
    obtain ⟨c0, c1, f0, f1⟩ := HC1.out.cells
    cases ok
    · go_wp2
      go_ret
      exact ⟨rfl, HC1.out.putBad true, grown_trans HG.out (grown_setCell _ _ _ _)⟩
    · have h1 : (0 : Int) ≤ (n : Int) := by omega
      have h2 : (n : Int) ≤ s.size := by have := HN.out rfl; omega
      go_wp2
      go_ret
      exact ⟨rfl, HC1.out.putS _, grown_trans HG.out (grown_setCell _ _ _ _)⟩
  · go_enter Tryd.func67, Tryd.ntmps67
    go_wp2
    go_ret
    exact ⟨rfl, HC.out, grown_refl _ _⟩

end Go.Proofs.YtokofifecdpmfaaDoor
