import Derived.Test.YtfibapfehgglhaaGreatDoorRefA
/-
  What the functions of package crc come to: halves, On, Of, Tail, Good.
-/
namespace Go.Proofs.YtfibapfehgglhaaGreatDoor
open Go.RowKit
namespace Crc
/-- the table's cells, when k of them are told -/
def part (k : Nat) : Array Value := (List.map (fun i : Nat => Value.int .u32 (if i < k then steps 4 i else 0 : Nat)) (List.range 16)).toArray
theorem part_zero : part 0 = #[.int .u32 0, .int .u32 0, .int .u32 0, .int .u32 0, .int .u32 0, .int .u32 0, .int .u32 0, .int .u32 0, .int .u32 0, .int .u32 0, .int .u32 0, .int .u32 0, .int .u32 0, .int .u32 0, .int .u32 0, .int .u32 0] := rfl
theorem part_size (k : Nat) : (part k).size = 16 := by simp [part]
theorem part_get (k i : Nat) (h : i < 16) : (part k)[i]? = some (.int .u32 (if i < k then steps 4 i else 0 : Nat)) := by
  simp [part, h]
theorem part_set (k : Nat) (h : k < 16) : (part k).setIfInBounds k (.int .u32 (steps 4 k : Nat)) = part (k + 1) := by
  apply Array.ext_getElem?
  intro i
  rw [Array.getElem?_setIfInBounds]
  by_cases hi : i < 16
  · rw [part_get _ _ hi, part_get _ _ hi, part_size]
    by_cases e : k = i
    · subst e; simp [h]
    · simp only [e, if_false]
      by_cases hk : i < k
      · rw [if_pos hk, if_pos (by omega)]
      · rw [if_neg hk, if_neg (by omega)]
  · have h1 : (part k)[i]? = none := by simp [part_size]; omega
    have h2 : (part (k + 1))[i]? = none := by simp [part_size]; omega
    rw [h1, h2, part_size, if_neg (by omega)]
/-- the table, as cells -/
def tab : Array Value := part 16
theorem part_all : part 16 = #[.int .u32 0, .int .u32 274646895, .int .u32 549293790, .int .u32 820201905, .int .u32 1098587580, .int .u32 1361435347, .int .u32 1640403810, .int .u32 1905808397, .int .u32 2197175160, .int .u32 2460548119, .int .u32 2722870694, .int .u32 2987750089, .int .u32 3280807620, .int .u32 3553878443, .int .u32 3811616794, .int .u32 4084100981] := by
  simp [part, steps, step, poly, List.range_succ]
theorem tab_get (i : Nat) (h : i < 16) : tab[i]? = some (.int .u32 (steps 4 i : Nat)) := by
  unfold tab; rw [part_get _ _ h, if_pos h]
end Crc

theorem Tryz.info267 : (Tryz.prog.info? 267).map (·.size) = some 16 := by kernel_rfl

set_option maxRecDepth 100000 in
set_option maxHeartbeats 400000 in
theorem halves_any (w : World) :
    Calls Tryz.prog 162 #[] w fun e w' => e = .returned (.agg Crc.tab) ∧ Below w.heap.size w w' := by
  go_enter Tryz.func162, Tryz.ntmps162
  go_wp2
  rw [← Crc.part_zero]
  go_loopw [5] (fun v wr => ∃ k : Nat, k ≤ 16 ∧ v = .int .i64 k ∧ wr = (w.alloc (.cells (Crc.part 0) 267)).alloc (.cells (Crc.part k) 267)) (fun v _ => 16 - (intOf v).toNat)
  case atStart => exact ⟨0, Nat.zero_le _, rfl, rfl⟩
  case round =>
    obtain ⟨k, hk, rfl, rfl⟩ := hrel
    by_cases h : k < 16
    · go_wp2
      go_loop [3, 10] (fun v j => ∃ m : Nat, m ≤ 4 ∧ j = .int .i64 m ∧ v = .int .u32 (Crc.steps m k : Nat)) (fun _ j => 4 - (intOf j).toNat)
      case atStart => exact ⟨0, by omega, rfl, rfl⟩
      case round =>
        obtain ⟨m, hm, rfl, rfl⟩ := hrel
        have hlt2 : Crc.steps m k < 4294967296 := Crc.steps_lt m (by omega)
        have hs := Crc.steps_succ m k
        generalize hR2 : Crc.steps m k = c2 at *
        have HR2 := Lib.hid hR2; clear hR2
        have HS := Lib.hid hs; clear hs
        have hand : bits BinOp.and IntKind.u32 (c2 : Int) 1 = ((c2 % 2 : Nat) : Int) := by
          rw [← nat_mask1]; exact u32_and_nat c2 1 hlt2 (by decide)
        by_cases hm4 : m < 4
        · by_cases hodd : c2 % 2 = 1
          · have hx2 : bits BinOp.xor IntKind.u32 ((c2 : Int) / 2) 2197175160 = ((c2 / 2 ^^^ Crc.poly : Nat) : Int) :=
              u32_xor_nat (c2 / 2) Crc.poly (by omega) Crc.poly_lt
            go_wp2
            go_round
            case rel => exact ⟨m + 1, by omega, by go_num, by rw [HS.out, Crc.step, if_pos hodd]⟩
            case measure => simp [intOf]; omega
          · go_wp2
            go_round
            case rel => exact ⟨m + 1, by omega, by go_num, by rw [HS.out, Crc.step, if_neg hodd]; go_num⟩
            case measure => simp [intOf]; omega
        · obtain rfl : m = 4 := by omega
          have hc := Crc.part_get k k h
          generalize Value.int .u32 ((if k < k then Crc.steps 4 k else 0 : Nat) : Int) = v0 at hc
          go_wp2
          go_roundw
          case rel => exact ⟨k + 1, by omega, by go_num, by rw [← HR2.out, Crc.part_set k h]⟩
          case measure => simp [intOf]; omega
    · obtain rfl : k = 16 := by omega
      rw [Crc.part_all, Crc.part_zero]
      go_wp2
      refine bodyPost_ret (v := .agg Crc.tab) (by rw [Crc.tab, Crc.part_all]; simp [results, Tryz.results162, go_sem]) rfl ⟨rfl, ?_⟩
      exact ((Below.refl _ _).alloc (Nat.le_refl _) _).alloc (by simp) _

end Go.Proofs.YtfibapfehgglhaaGreatDoor
