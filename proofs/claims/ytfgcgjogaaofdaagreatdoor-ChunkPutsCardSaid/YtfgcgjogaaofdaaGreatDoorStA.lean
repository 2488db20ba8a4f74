/-
  What classOf, next, change of package stamp come to.
-/
import Derived.Test.YtfgcgjogaaofdaaGreatDoorStM
namespace Go.Proofs.YtfgcgjogaaofdaaGreatDoor
open Go.RowKit

/-- the table of classes, laid -/
def ClsOk (w : World) : Prop := ∀ k, k < 5 → ∀ j, j < 6 → w.cell? ⟨0, k * 6 + j, none⟩ = some ((St.cell k).getD j undef)
theorem ClsOk.later {w W : World} (h : ClsOk w) (hb : Below w.heap.size w W) : ClsOk W := fun k hk j hj => by
  have h0 := h k hk j hj
  have hv : ∃ v, (St.cell k).getD j undef = v := ⟨_, rfl⟩
  exact (hb.cell (block_lt_of_cell h0)).trans h0

set_option maxRecDepth 100000 in
set_option maxHeartbeats 400000 in
theorem classOf_any (c : Int) (w : World) (hT : ClsOk w) :
    Calls Tryz.prog 84 #[.int .i64 c] w fun e w' => e = .returned (.int .i64 (St.cls c : Nat)) ∧ w' = w := by
  have HT := Lib.hid hT; clear hT
  have HC := Lib.hid (St.cls_cases c)
  go_enter Tryz.func84, Tryz.ntmps84
  go_wp2_with fail
  go_loop [4] (fun i => ∃ (k : Nat), k ≤ 4 ∧ i = .int .i64 k ∧ k ≤ St.cls c) (fun i => 4 - (intOf i).toNat)
  case atStart => exact ⟨0, by omega, rfl, by omega⟩
  case round =>
    obtain ⟨k, hk, rfl, hc⟩ := hrel
    obtain rfl | hk4 : k = 4 ∨ k < 4 := by omega
    · go_wp2_with fail
      go_ret
      refine ⟨ret_int ?_, rfl⟩
      have := HC.out; omega
    have h0 := HT.out k (by omega) 0 (by omega)
    have h1 := HT.out k (by omega) 1 (by omega)
    obtain rfl | rfl | rfl | rfl : k = 0 ∨ k = 1 ∨ k = 2 ∨ k = 3 := by omega
    all_goals simp [St.cell, St.low, St.high] at h0 h1
    all_goals go_wp2_with fail
    all_goals have hcc := HC.out
    all_goals first
      | (go_round
         case rel => first | exact ⟨1, by omega, by go_num, by omega⟩ | exact ⟨2, by omega, by go_num, by omega⟩ | exact ⟨3, by omega, by go_num, by omega⟩ | exact ⟨4, by omega, by go_num, by omega⟩
         case measure => simp [intOf])
      | (go_ret; refine ⟨ret_int ?_, rfl⟩; omega)
set_option maxRecDepth 100000 in
theorem next_any (s : St.S) (t : Int) (w : World) :
    Calls Tryz.prog 82 #[s.val, .int .i64 t] w fun e w' => e = .returned (s.next t).val ∧ Below w.heap.size w w' := by
  obtain ⟨n, x, d⟩ := s
  unfold St.S.val St.S.next St.sw
  dsimp only
  by_cases h : n = 0
  · subst h
    go_enter Tryz.func82, Tryz.ntmps82
    go_wp2_with fail
    refine bodyPost_ret (v := .agg #[.int .i64 1, .int .i64 t, .int .i64 0]) (by simp [results, go_sem]) rfl ⟨rfl, ?_⟩
    exact ((Below.refl _ _).alloc (Nat.le_refl _) _).alloc (by simp) _
  · have h2 : (n == 0) = false := by simp [h]
    rw [if_neg h]
    go_enter Tryz.func82, Tryz.ntmps82
    go_wp2_with fail
    refine bodyPost_ret (v := .agg #[.int .i64 (wrap64 (n + 1)), .int .i64 t, .int .i64 (wrap64 (t - x))]) (by simp [results, go_sem]) rfl ⟨rfl, ?_⟩
    exact ((Below.refl _ _).alloc (Nat.le_refl _) _).alloc (by simp) _
set_option maxRecDepth 100000 in
theorem change_any (s : St.S) (t : Int) (w : World) :
    Calls Tryz.prog 83 #[s.val, .int .i64 t] w fun e w' => e = .returned (.int .i64 (s.change t)) ∧ Below w.heap.size w w' := by
  obtain ⟨n, x, d⟩ := s
  unfold St.S.val St.S.change St.sw
  dsimp only
  go_enter Tryz.func83, Tryz.ntmps83
  go_wp2_with fail
  go_ret
  exact ⟨rfl, (Below.refl _ _).alloc (Nat.le_refl _) _⟩
end Go.Proofs.YtfgcgjogaaofdaaGreatDoor
