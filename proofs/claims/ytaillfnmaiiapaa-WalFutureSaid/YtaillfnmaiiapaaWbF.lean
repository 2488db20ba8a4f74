/-
  WalFuture: the walk.
-/
import Derived.Test.YtaillfnmaiiapaaWaXb
namespace Go.Proofs.Ytaillfnmaiiapaa
open Go.RowKit
set_option maxRecDepth 100000 in
set_option maxHeartbeats 4000000 in
theorem walFuture_walk (w : World) (a : ByteArray) (_ha : a.size ≤ maxLen) :
    Calls Try.prog 5 #[.string a] w fun e w' => e = .returned (.bool true) ∧ Below w.heap.size w w' := by
  go_enter Try.func5, Try.ntmps5
  go_wp2_with fail
  refine (works_any _).mono ?_; rintro e w1 ⟨rfl, hb1⟩
  have HB1 := Lib.hid hb1
  clear hb1
  by_cases hl : a.size ≤ 4000
  · have hd : decide ((4000 : Int) < (a.size : Int)) = false := by simp; omega
    go_wp2_with fail
    refine (lawRead_any a (by omega) _).mono ?_; rintro e w2 ⟨A, c, B, d, q, rfl, -, hb2⟩
    have HB2 := Lib.hid (below_step HB1.out hb2)
    clear hb2 HB1
    have hra := Wa.read_any a
    obtain ⟨X, hX⟩ : ∃ X, X = Wa.read a := ⟨_, rfl⟩
    rw [← hX] at hra ⊢
    clear hX
    rcases hra with ⟨e1, ⟨g1, g2⟩, u1, u2, f1⟩ | e | e
    · rw [e1]
      clear e1
      have d1 : decide ((1 : Int) ≤ (X.gen : Int)) = true := by simp; omega
      have d2 : decide ((X.gen : Int) ≤ 3) = true := by simp; omega
      have d3 : decide ((X.used : Int) ≤ (a.size : Int)) = true := by simp; omega
      have d4 : decide ((10 : Int) ≤ (X.used : Int)) = true := by simp; omega
      have d5 : decide ((X.flags : Int) ≤ 3) = true := by simp; omega
      go_wp2_with fail
      go_ret
      exact ⟨rfl, below_step HB2.out ((Below.refl _ _).alloc (Nat.le_refl _) _)⟩
    all_goals
      subst e
      simp only [Wa.noSg, List.length_nil]
      go_wp2_with fail
      go_ret
      exact ⟨rfl, below_step HB2.out ((Below.refl _ _).alloc (Nat.le_refl _) _)⟩
  · have hd : decide ((4000 : Int) < (a.size : Int)) = true := by simp; omega
    go_wp2_with fail
    go_ret
    exact ⟨rfl, HB1.out⟩
end Go.Proofs.Ytaillfnmaiiapaa
