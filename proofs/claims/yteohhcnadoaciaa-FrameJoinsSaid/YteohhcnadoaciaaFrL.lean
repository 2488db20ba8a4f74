/-
  FrameSizes, FrameBack: the walks of the laws.
-/
import Derived.Test.YteohhcnadoaciaaFrK
namespace Go.Proofs.Yteohhcnadoaciaa
open Go.RowKit

set_option maxRecDepth 100000 in
set_option maxHeartbeats 1000000 in
theorem frameSizes_walk (w : World) (b : ByteArray) (hb : b.size ≤ maxLen) (magic : ByteArray) (hm : magic.size ≤ maxLen) (g : Int) (_hg : (Lit.int .i64 g).wf = true) (f : Int) (_hf : (Lit.int .i64 f).wf = true) :
    Calls Try.prog 7 #[.string b, .string magic, .int .i64 g, .int .i64 f] w fun e w' => e = .returned (.bool true) ∧ Below w.heap.size w w' := by
  by_cases hl : b.size ≤ 400 ∧ magic.size ≤ 400
  · obtain ⟨hl1, hl2⟩ := hl
    have d1 : decide ((400 : Int) < (b.size : Int)) = false := by simp; omega
    have d2 : decide ((400 : Int) < (magic.size : Int)) = false := by simp; omega
    have hh := Fr.head_size magic g f
    have hput := Fr.put_size b
    have HP := Lib.hid (Put_any b (by omega)); have HH := Lib.hid (Head_any magic (by omega) g f)
    generalize Fr.head magic g f = h at *
    generalize Fr.put b = p at *
    by_cases h127 : b.size ≤ 127
    · have d3 : decide ((127 : Int) < (b.size : Int)) = false := by simp; omega
      rw [Fr.small_one _ h127] at hput
      have e1 : ((p.size : Int) == (b.size : Int) + 5) = true := by simp; omega
      have e2 : ((h.size : Int) == (magic.size : Int) + 6) = true := by simp; omega
      clear hh hput h127
      go_enter Try.func7, Try.ntmps7
      go_wp2_with fail
      refine (works_any _).mono ?_; rintro e w1 ⟨rfl, hb1⟩; have HB1 := Lib.hid hb1; clear hb1
      go_wp2_with fail
      refine (HP.out _).mono ?_; rintro e w2 ⟨rfl, hb2⟩; have HB2 := Lib.hid (below_step HB1.out hb2); clear hb2
      go_wp2_with fail
      refine (HH.out _).mono ?_; rintro e w3 ⟨rfl, hb3⟩; have HB3 := Lib.hid (below_step HB2.out hb3); clear hb3
      go_wp2_with fail
      go_ret
      exact ⟨rfl, HB3.out⟩
    · have d3 : decide ((127 : Int) < (b.size : Int)) = true := by simp; omega
      rw [Fr.small_two _ (by omega) (by omega)] at hput
      have e1 : ((p.size : Int) == (b.size : Int) + 6) = true := by simp; omega
      have e2 : ((h.size : Int) == (magic.size : Int) + 6) = true := by simp; omega
      clear hh hput h127
      go_enter Try.func7, Try.ntmps7
      go_wp2_with fail
      refine (works_any _).mono ?_; rintro e w1 ⟨rfl, hb1⟩; have HB1 := Lib.hid hb1; clear hb1
      go_wp2_with fail
      refine (HP.out _).mono ?_; rintro e w2 ⟨rfl, hb2⟩; have HB2 := Lib.hid (below_step HB1.out hb2); clear hb2
      go_wp2_with fail
      refine (HH.out _).mono ?_; rintro e w3 ⟨rfl, hb3⟩; have HB3 := Lib.hid (below_step HB2.out hb3); clear hb3
      go_wp2_with fail
      go_ret
      exact ⟨rfl, HB3.out⟩
  · have hd : decide ((400 : Int) < (b.size : Int)) = true ∨ (decide ((400 : Int) < (b.size : Int)) = false ∧ decide ((400 : Int) < (magic.size : Int)) = true) := by
      by_cases h : b.size ≤ 400
      · right; simp at hl; simp; omega
      · left; simp; omega
    clear hl
    rcases hd with d1 | ⟨d1, d2⟩
    all_goals
      go_enter Try.func7, Try.ntmps7
      go_wp2_with fail
      refine (works_any _).mono ?_; rintro e w1 ⟨rfl, hb1⟩; have HB1 := Lib.hid hb1; clear hb1
      go_wp2_with fail
      go_ret
      exact ⟨rfl, HB1.out⟩
end Go.Proofs.Yteohhcnadoaciaa
