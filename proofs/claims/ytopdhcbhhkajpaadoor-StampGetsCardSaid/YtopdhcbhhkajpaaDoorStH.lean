/-
  What of of the laws, at of the reference come to.
-/
import Derived.Test.YtopdhcbhhkajpaaDoorStG
namespace Go.Proofs.YtopdhcbhhkajpaaDoor
open Go.RowKit

set_option maxRecDepth 100000 in
theorem of_any (s : St.S) (w : World) :
    Calls Tryd.prog 14 #[s.val] w fun e w' => e = .returned s.val ∧ Below w.heap.size w w' := by
  obtain ⟨n, x, d⟩ := s
  unfold St.S.val
  dsimp only
  go_enter Tryd.func14, Tryd.ntmps14
  go_wp2_with fail
  refine bodyPost_ret (v := .agg #[.int .i64 n, .int .i64 x, .int .i64 d]) (by simp [results, go_sem]) rfl ⟨rfl, ?_⟩
  exact ((Below.refl _ _).alloc (Nat.le_refl _) _).alloc (by simp) _
set_option maxRecDepth 100000 in
set_option maxHeartbeats 400000 in
theorem rAt_any (B : List Bool) (_hB : B.length ≤ 4000) (a n : Nat) (hn : n ≤ 64) (ha : a ≤ 64) (off : Int) (w : World) :
    Calls Tryd.prog 40 #[.string (Bit.str B), .int .i64 a, .int .i64 n, .int .i64 off] w fun e w' =>
      e = .returned (if B.length < a + n then .tuple #[.int .i64 0, .bool false] else .tuple #[.int .i64 (St.sw (St.sw (Bit.val ((B.drop a).take n) : Nat) - off)), .bool true]) ∧ w' = w := by
  have hs : (Bit.str B).size = B.length := Bit.str_size B
  by_cases h : B.length < a + n
  · rw [if_pos h]
    go_enter Tryd.func40, Tryd.ntmps40
    go_wp2_with fail
    go_ret2
    exact ⟨rfl, rfl⟩
  · rw [if_neg h]
    have hx : (Bit.str B).extract a (a + n) = Bit.str ((B.drop a).take n) := by rw [Bit.str_extract]; congr 2; omega
    have hl : ((B.drop a).take n).length ≤ 64 := by rw [List.length_take]; omega
    go_enter Tryd.func40, Tryd.ntmps40
    go_wp2_with fail

    refine (rNumber_any _ hl _).mono ?_; rintro e wx ⟨rfl, rfl⟩
    go_wp2_with fail
    go_ret2
    exact ⟨rfl, rfl⟩
end Go.Proofs.YtopdhcbhhkajpaaDoor
