/-
  What the functions of package num come to: the cursor.
-/
import Derived.Test.YtokofifecdpmfaaDoorNumC
namespace Go.Proofs.YtokofifecdpmfaaDoor
open Go.RowKit

/-- what a cursor is told, and what it has then -/
def Num.curV {α : Type} (bad ok : Bool) (v z : α) : α := if bad || !ok then z else v
/-- the cursor at block b -/
def CurAt (b : Nat) (s : ByteArray) (bad : Bool) (w : World) : Prop := w.heap[b]? = some (.cells #[.string s, .bool bad] 77 (0, 0))
theorem CurAt.cells {b : Nat} {s : ByteArray} {bad : Bool} {w : World} (h : CurAt b s bad w) : w.cell? ⟨b, 0, none⟩ = some (.string s) ∧ w.cell? ⟨b, 1, none⟩ = some (.bool bad) ∧ w.frozen? ⟨b, 0, none⟩ = false ∧ w.frozen? ⟨b, 1, none⟩ = false :=
  ⟨cell_of_row w b 0 _ _ _ h, cell_of_row w b 1 _ _ _ h, frozen_of_row w b 0 _ _ h, frozen_of_row w b 1 _ _ h⟩
theorem CurAt.putS {b : Nat} {s : ByteArray} {bad : Bool} {w : World} (h : CurAt b s bad w) (t : ByteArray) : CurAt b t bad (w.setCell ⟨b, 0, none⟩ (.string t)) := heap_setCell_same w b 0 _ _ _ h
theorem CurAt.putBad {b : Nat} {s : ByteArray} {bad : Bool} {w : World} (h : CurAt b s bad w) (t : Bool) : CurAt b s t (w.setCell ⟨b, 1, none⟩ (.bool t)) := heap_setCell_same w b 1 _ _ _ h
theorem CurAt.drew {b : Nat} {s : ByteArray} {bad : Bool} {w : World} (h : CurAt b s bad w) : CurAt b s bad w.drew := h

set_option maxRecDepth 100000 in
set_option maxHeartbeats 400000 in
theorem take_small (b : Nat) (s : ByteArray) (hs : s.size ≤ maxLen) (bad : Bool) (w : World) (hc : CurAt b s bad w) :
    Calls Tryd.prog 65 #[.pointer (some ⟨b, 0, none⟩), .func (.func 66) #[] #[]] w fun e w' => e = .returned (.int .u64 ((Num.curV bad ((Num.decp 0 0 s.data.toList).2.2) ((Num.decp 0 0 s.data.toList).1) 0 : Nat) : Int)) ∧ CurAt b (Num.curV bad ((Num.decp 0 0 s.data.toList).2.2) (s.extract ((Num.decp 0 0 s.data.toList).2.1) s.size) s) (bad || !(Num.decp 0 0 s.data.toList).2.2) w' ∧ w.grownBy w' (some b) := by
  have hn : (Num.decp 0 0 s.data.toList).2.2 = true → (Num.decp 0 0 s.data.toList).2.1 ≤ s.size := fun _ => by have := Num.decp_snd s.data.toList 0 0; simp at this; omega
  have hcall := fun W (hW : Below w.heap.size w W) => (small_any s hs W).mono (R' := fun e w' => e = .returned (.tuple #[.int .u64 ((Num.decp 0 0 s.data.toList).1 : Nat), .int .i64 ((Num.decp 0 0 s.data.toList).2.1 : Nat), .bool (Num.decp 0 0 s.data.toList).2.2]) ∧ Below w.heap.size w w') (fun e w' ⟨h1, h2⟩ => ⟨h1, h2 ▸ hW⟩)
  obtain ⟨c0, c1, f0, f1⟩ := hc.cells
  have HC := Lib.hid hc; have HCALL := Lib.hid hcall; have HN := Lib.hid hn
  clear hc hcall hn
  unfold maxLen at hs
  generalize (Num.decp 0 0 s.data.toList).2.2 = ok at *
  generalize (Num.decp 0 0 s.data.toList).1 = v at *
  generalize (Num.decp 0 0 s.data.toList).2.1 = n at *
  cases bad
  · go_enter Tryd.func65, Tryd.ntmps65
    go_wp2_with fail
    refine (HCALL.out _ (Below.refl _ _)).mono ?_
    rintro e w1 ⟨rfl, hb⟩
    have HC1 : Hid (CurAt b s false w1) := heap_keep HC.out hb
    have HG := Lib.hid (grown_of_below (row := some b) hb)
    clear hb c0 c1 f0 f1
    obtain ⟨c0, c1, f0, f1⟩ := HC1.out.cells
    cases ok
    · go_wp2
      go_ret
      exact ⟨rfl, HC1.out.putBad true, grown_trans HG.out (grown_setCell _ _ _ _)⟩
    · have h1 : (0 : Int) ≤ (n : Int) := by omega
      have h2 : (n : Int) ≤ s.size := by have := HN.out rfl; omega
      go_wp2
      go_ret
      exact ⟨rfl, HC1.out.putS _, grown_trans HG.out (grown_setCell _ _ _ _)⟩
  · go_enter Tryd.func65, Tryd.ntmps65
    go_wp2
    go_ret
    exact ⟨rfl, HC.out, grown_refl _ _⟩

end Go.Proofs.YtokofifecdpmfaaDoor
