/-
  What the functions of the reference alluviumref03 come to: Fixed.
-/
import Derived.Test.YtkknagfeceljdaaNumR
import Derived.Test.YtkknagfeceljdaaOwnM
import Derived.Deep.DeepCutAuto
namespace Go.Proofs.Ytkknagfeceljdaa
open Go.RowKit

def rowLen : Value → Nat
  | .slice _ n _ => n
  | _ => 0

set_option maxRecDepth 100000 in
set_option maxHeartbeats 400000 in
theorem rFixed_any (s : ByteArray) (hs : s.size ≤ 300) (n : Int) (w : World) :
    Calls Try.prog 18 #[.string s, .int .i64 n] w fun e w' => e = .returned (.string (Num.fixedB s (Num.sz n))) ∧ Below w.heap.size w w' := by
  obtain ⟨i0, hi, hz0, hz1, hz2⟩ := info_parts Try.info5
  have hk := Num.sz_le n
  have hn : n < 0 ∧ Num.sz n = 0 ∨ (0 ≤ n ∧ n ≤ 255 ∧ (Num.sz n : Int) = n) ∨ (255 < n ∧ Num.sz n = 255) := by unfold Num.sz; omega
  generalize hK : Num.sz n = k at *
  go_enter Try.func18, Try.ntmps18
  go_upto_region 1 with fail
  go_cut [1] (fun s1 wx => s1 = .int .i64 (k : Nat) ∧ w = wx)
  case first =>
    rcases hn with ⟨h1, rfl⟩ | ⟨h1, h2, rfl⟩ | ⟨h1, rfl⟩
    all_goals go_wp2_with fail
    all_goals go_meet
    all_goals exact ⟨rfl, rfl⟩
  case rest =>
  obtain ⟨rfl, rfl⟩ := hcut
  go_upto_region 2 with fail
  go_cut [0] (fun s0 wx => s0 = .string (s.extract 0 k) ∧ w = wx)
  case first =>
    have hall : s.size ≤ k → s = s.extract 0 k := fun h => by
      apply ByteArray.ext; apply Array.toList_inj.1
      simp [ByteArray.data_extract, Array.toList_extract]
      rw [List.take_of_length_le (by simp; omega)]
    have HALL := Lib.hid hall; clear hall
    rcases Nat.le_total k s.size with h1 | h1
    all_goals go_wp2_with fail
    all_goals go_meet
    all_goals first | exact ⟨rfl, rfl⟩ | exact ⟨congrArg Value.string (HALL.out (by omega)), rfl⟩
  case rest =>
  obtain ⟨rfl, rfl⟩ := hcut
  have hL : (s.extract 0 k).size = min k s.size := by simp
  have hD : (s.extract 0 k).data.toList = s.data.toList.take k := by simp [ByteArray.data_extract, Array.toList_extract]
  generalize s.extract 0 k = t at *
  have hm : t.size ≤ k := by omega
  have hcv := run_bytes_of_string (P := Try.prog) w 9 47 5 t Try.underlying9 Try.underlying47 Try.underlying5
  have hg1 := grownCap_ge w t.size 0 5
  have hg2 := grownCap_le_maxLen w t.size 0 5 (by unfold maxLen; omega)
  generalize grownCap w t.size 0 5 = cap at *
  have hown0 := OwnsM.of_string (w := w) (base := w.heap.size) (s := t) (cap := cap) (e := 5) (Nat.le_refl _) hg1 hg2
  have hb0 : Below w.heap.size w (w.drew.alloc (.cells (bytesRow t cap) 5 ((bytesRow t cap).size, (bytesRow t cap).size + 1))) := (Below.drew (Below.refl _ _)).alloc (Nat.le_refl _) _
  generalize w.drew.alloc (.cells (bytesRow t cap) 5 ((bytesRow t cap).size, (bytesRow t cap).size + 1)) = w0 at *
  have hT : t.data.toList.length = t.size := by simp
  have HLL := Lib.hid hL; clear hL
  go_wp2_with fail
  go_loopw [5] (fun b wr => ∃ l : List UInt8, OwnsM wr w.heap.size b l ∧ l.length ≤ k ∧ t.size ≤ l.length ∧ l = t.data.toList ++ List.replicate (l.length - t.size) 0 ∧ Below w.heap.size w wr) (fun b _ => k - rowLen b)
  case atStart => exact ⟨t.data.toList, hown0, by omega, by omega, by simp, hb0⟩
  case round =>
    obtain ⟨l, hown, hlk, htl, hl, hb⟩ := hrel
    have hbs := hb.size
    have HL := Lib.hid hl; have HD := Lib.hid hD; have HT := Lib.hid hT; clear hl hD hT
    have hown1 := fun o => hown.keep (Below.alloc (Below.refl _ wr) (Nat.le_refl _) o)
    obtain ⟨g, c, rfl, hgb, -⟩ := id hown
    by_cases hc : l.length < k
    · go_wp2_with (at_builtin; go_must (refine wpList_appM _ rfl _ _ 47 rfl 5 i0 (.int .u8 0) Try.underlying47 hi hz0 hz1 hz2 rfl w.heap.size _ l rfl (hown1 _) ⟨wr.heap.size, 0, none⟩ 1 0 0 (by simp) rfl (cell_one_new _ _ _) (by omega) ?_); intro v' w1 hown' hgrow)
      go_roundw
      case rel =>
        refine ⟨l ++ [0], hown', by simp; omega, by simp; omega, ?_, (hb.alloc hbs _).grown hgrow (by simp; omega) (fun b hv => ?_)⟩
        · have h := HL.out
          rw [List.length_append, List.length_singleton, show l.length + 1 - t.size = (l.length - t.size) + 1 from by omega, List.replicate_succ', ← List.append_assoc, ← h]
        · cases hv; exact hgb
      case measure =>
        obtain ⟨g', c', rfl, -⟩ := hown'
        simp [rowLen]; omega
    · go_wp2_with (at_builtin; go_must (refine wpList_appM _ rfl _ _ 47 rfl 5 i0 (.int .u8 0) Try.underlying47 hi hz0 hz1 hz2 rfl w.heap.size _ l rfl (hown1 _) ⟨wr.heap.size, 0, none⟩ 1 (UInt8.ofNat t.size) (t.size : Nat) (by simp; omega) rfl (cell_one_new _ _ _) (by omega) ?_); intro v' w1 hown' hgrow)
      rw [hown'.text (P := Try.prog) (src := 47) (dst := 9) Try.underlying47 Try.underlying5 Try.underlying9]
      go_wp2
      go_ret
      refine ⟨?_, (hb.alloc hbs _).grown hgrow (by simp; omega) (fun b hv => by cases hv; exact hgb)⟩
      have e1 : l ++ [UInt8.ofNat t.size] = Num.fixL s.data.toList k := by
        have h := HL.out
        rw [show l.length - t.size = k - t.size from by omega] at h
        unfold Num.fixL
        rw [← HD.out, HT.out, ← h]
      rw [e1]
      rfl
end Go.Proofs.Ytkknagfeceljdaa
