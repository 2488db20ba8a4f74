/-
  What the small functions of package bits come to: NewWriter, NewReader, Len, Bytes, Clean.
-/
import Derived.Test.YtahdfcflgicpkaaDoorBitG
namespace Go.Proofs.YtahdfcflgicpkaaDoor
open Go.RowKit

theorem NewWriter_any (w : World) : Calls Tryd.prog 14 #[] w fun e w' => e = .returned (.pointer (some ⟨w.heap.size, 0, none⟩)) ∧ w' = w.alloc (.cells #[.slice none 0 0, .int .i64 0] 56) := by
  go_enter Tryd.func14, Tryd.ntmps14
  go_wp2_with fail
  go_ret
  exact ⟨rfl, rfl⟩
theorem NewReader_any (s : ByteArray) (w : World) : Calls Tryd.prog 19 #[.string s] w fun e w' => e = .returned (.pointer (some ⟨w.heap.size, 0, none⟩)) ∧ w' = w.alloc (.cells #[.string s, .int .i64 0] 63) := by
  go_enter Tryd.func19, Tryd.ntmps19
  go_wp2_with fail
  go_ret
  exact ⟨rfl, rfl⟩
theorem WrAt.new (w : World) (base : Nat) : WrAt (w.alloc (.cells #[.slice none 0 0, .int .i64 0] 56)) base w.heap.size none 0 [] :=
  ⟨heap_alloc_new w _, World.ownsRow_nil _ _ _ _⟩
theorem Len_any {base p cap : Nat} {A : Option Addr} {B : List Bool} (w : World) (h : WrAt w base p A cap B) : Calls Tryd.prog 16 #[.pointer (some ⟨p, 0, none⟩)] w fun e w' => e = .returned (.int .i64 B.length) ∧ w' = w := by
  have c1 : w.cell? ⟨p, 1, none⟩ = some (.int .i64 B.length) := cell_of_row _ _ _ _ _ _ h.cells
  clear h
  go_enter Tryd.func16, Tryd.ntmps16
  go_wp2_with fail
  go_ret
  exact ⟨rfl, rfl⟩
/-- the bytes of bits, as a text -/
def Bit.text (B : List Bool) : ByteArray := ⟨(Bit.pack B).toArray⟩
theorem Bit.text_size (B : List Bool) : (Bit.text B).size = (B.length + 7) / 8 := by unfold Bit.text; exact Bit.pack_length B
theorem Bit.text_bits (B : List Bool) : Bit.bits (Bit.text B) = B ++ List.replicate (8 * Bit.size B - B.length) false := Bit.un_pack B
set_option maxHeartbeats 400000 in
theorem Bytes_any {base p cap : Nat} {A : Option Addr} {B : List Bool} (w : World) (h : WrAt w base p A cap B) : Calls Tryd.prog 26 #[.pointer (some ⟨p, 0, none⟩)] w fun e w' => e = .returned (.string (Bit.text B)) ∧ w' = w := by
  have c1 : w.cell? ⟨p, 0, none⟩ = some (.slice A (Bit.pack B).length cap) := cell_of_row _ _ _ _ _ _ h.cells
  have hc := own_bytes (P := Tryd.prog) (Bit.pack B) Tryd.underlying54 Tryd.underlying5 Tryd.underlying9 h.own
  generalize hs : (⟨(Bit.pack B).toArray⟩ : ByteArray) = t at *
  have ht : Bit.text B = t := hs
  rw [ht]
  clear h hs ht
  go_enter Tryd.func26, Tryd.ntmps26
  go_wp2_with fail
  go_ret
  exact ⟨rfl, rfl⟩

set_option maxRecDepth 100000 in
set_option maxHeartbeats 400000 in
theorem Clean_any (p : Nat) (s : ByteArray) (hs : s.size ≤ 137438953472) (x : Nat) (hx : x ≤ 8 * s.size) (w : World) (h : RdAt w p s x) (b : Bool)
    (hb : b = (decide (8 * s.size - x < 8) && decide (Bit.val (((Bit.bits s).drop x).take (Bit.wd ((8 * s.size - x : Nat) : Int))) = 0))) :
    Calls Tryd.prog 21 #[.pointer (some ⟨p, 0, none⟩)] w fun e w' => e = .returned (.bool b) ∧ Below w.heap.size w w' := by
  have c0 : w.cell? ⟨p, 0, none⟩ = some (.string s) := cell_of_row _ _ _ _ _ _ h
  have c1 : w.cell? ⟨p, 1, none⟩ = some (.int .i64 x) := cell_of_row _ _ _ _ _ _ h
  have hl := fun W (h : RdAt W p s x) => Left_any p s hs x hx W h
  have HL := Lib.hid hl; have HR := Lib.hid h; have HB := Lib.hid hb; clear hl h hb
  have hpl : p < w.heap.size := (Array.getElem?_eq_some_iff.1 HR.out).1
  go_enter Tryd.func21, Tryd.ntmps21
  go_wp2_with fail
  refine (HL.out _ ((Below.heap_alloc w _ p hpl).trans HR.out)).mono ?_; rintro e w1 ⟨rfl, hd⟩
  have r1 : RdAt w1 w.heap.size s x := by unfold RdAt; rw [hd.heap]; exact heap_alloc_new w _
  have r1p : RdAt w1 p s x := by unfold RdAt; rw [hd.heap]; exact (Below.heap_alloc w _ p hpl).trans HR.out
  have b1 : Below w.heap.size w w1 := ((Below.refl w.heap.size w).alloc (Nat.le_refl _) (.cells #[.string s, .int .i64 x] 63)).grown (hd.grown none) (by simp) (fun r e => by cases e)
  have R1 := Lib.hid r1; have R1p := Lib.hid r1p; have B1 := Lib.hid b1; clear hd r1 r1p b1
  have hwd : x + Bit.wd ((8 * s.size - x : Nat) : Int) ≤ 8 * s.size := by unfold Bit.wd; omega
  have hg := Get_yes w.heap.size s hs x ((8 * s.size - x : Nat) : Int) w1 R1.out hwd
  have hvl := Bit.val_take_lt ((Bit.bits s).drop x) (Bit.wd ((8 * s.size - x : Nat) : Int))
  generalize hv : Bit.val (((Bit.bits s).drop x).take (Bit.wd ((8 * s.size - x : Nat) : Int))) = vv at *
  have HG := Lib.hid hg; have HV := Lib.hid hv; clear hg hv hwd hvl
  generalize hL : 8 * s.size - x = L at *
  have HLL := Lib.hid hL; clear hL
  go_wp2_with fail
  refine HG.out.mono ?_; rintro e w2 ⟨rfl, hr2, hf2⟩
  have hp1 : p < w1.heap.size := (Array.getElem?_eq_some_iff.1 R1p.out).1
  have r2p : RdAt w2 p s x := (hf2.same p hp1 (fun e => by have : p = w.heap.size := e; omega)).trans R1p.out
  have b2 : Below w.heap.size w w2 := B1.out.trans (hf2.below (by have := B1.out.size; omega) (fun k hk => by have : k = w.heap.size := hk; omega))
  have R2p := Lib.hid r2p; have B2 := Lib.hid b2; clear hr2 hf2 r2p b2
  go_wp2_with fail
  refine (HL.out _ R2p.out).mono ?_; rintro e w3 ⟨rfl, hd⟩
  have b3 := Lib.hid (B2.out.grown (hd.grown none) B2.out.size (fun r e => by cases e)); clear hd
  by_cases h8 : L < 8
  · have d8 : decide ((L : Int) < 8) = true := by simp; omega
    by_cases h0 : vv = 0
    · have d0 : ((vv : Int) == 0) = true := by simp; omega
      go_wp2_with fail
      go_ret
      have hb := HB.out
      rw [decide_eq_true h8, decide_eq_true h0] at hb
      subst hb
      exact ⟨rfl, b3.out⟩
    · have d0 : ((vv : Int) == 0) = false := by simp; omega
      go_wp2_with fail
      go_ret
      have hb := HB.out
      rw [decide_eq_true h8, decide_eq_false h0] at hb
      subst hb
      exact ⟨rfl, b3.out⟩
  · have d8 : decide ((L : Int) < 8) = false := by simp; omega
    go_wp2_with fail
    go_ret
    have hb := HB.out
    rw [decide_eq_false h8] at hb
    subst hb
    exact ⟨rfl, b3.out⟩

end Go.Proofs.YtahdfcflgicpkaaDoor
