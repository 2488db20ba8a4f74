/-
  What the functions of the reference alluviumref01 come to: Of, On, Tail, Good.
-/
import Derived.Test.YtokofifecdpmfaaGreatDoorCrcC
import Derived.Deep.DeepMust
namespace Go.Proofs.YtokofifecdpmfaaGreatDoor
open Go.RowKit

theorem Crc.fourL_take (c k : Nat) (hc : c < 4294967296) (h : k < 4) : (fourL c).take (k + 1) = (fourL c).take k ++ [((c / 256 ^ k : Nat) : Int) % 256] := by
  unfold fourL
  obtain rfl | rfl | rfl | rfl : k = 0 ∨ k = 1 ∨ k = 2 ∨ k = 3 := by omega
  all_goals simp only [List.take, List.nil_append, List.cons_append, List.cons.injEq, true_and, and_true, Nat.reducePow, Nat.div_one]
  all_goals omega

set_option maxRecDepth 100000 in
set_option maxHeartbeats 400000 in
theorem rOf_any (s : ByteArray) (hs : s.size ≤ maxLen) (w : World) :
    Calls Tryz.prog 71 #[.string s] w fun e w' => e = .returned (.int .u32 (Crc.ofB s : Nat)) ∧ w = w' := by
  have hlt := Crc.run_lt s.data.toList (c := 4294967295) (by omega)
  have hn : (4294967295 : Int) - (Crc.run 4294967295 s.data.toList : Nat) = (Crc.ofB s : Nat) := by unfold Crc.ofB; omega
  have HN := Lib.hid hn; clear hn
  go_enter Tryz.func71, Tryz.ntmps71
  go_wp2_with (go_at_call 91; refine (run_any 4294967295 (by omega) s hs _).mono ?_; rintro e w1 ⟨rfl, rfl⟩)
  go_ret
  exact ⟨ret_int HN.out, rfl⟩

theorem Tryz.info5 : (Tryz.prog.info? 5).map (fun i => (i.zero, i.size, i.bytes)) = some (some (.int .u8 0), 1, 1) := by kernel_rfl

set_option maxRecDepth 100000 in
set_option maxHeartbeats 400000 in
theorem rTail_any (s : ByteArray) (hs : s.size ≤ maxLen) (w : World) :
    Calls Tryz.prog 47 #[.string s] w fun e w' => e = .returned (.string (Crc.four (Crc.ofB s))) ∧ Below w.heap.size w w' := by
  obtain ⟨i0, hi, hz0, hz1, hz2⟩ := info_parts Tryz.info5
  have hlt := Crc.ofB_lt s
  go_enter Tryz.func47, Tryz.ntmps47
  go_wp2_with (go_at_call 71; refine (rOf_any s hs _).mono ?_; rintro e w1 ⟨rfl, rfl⟩)
  generalize hC : Crc.ofB s = c at *
  have HC := Lib.hid hC; clear hC
  go_loopw [3, 4, 5] (fun v3 v4 v5 wr => ∃ k : Nat, k ≤ 4 ∧ v5 = .int .i64 k ∧ v3 = .int .u32 (c / 256 ^ k : Nat) ∧ wr.ownsRow w.heap.size 5 1 v4 k (((Crc.fourL c).take k).map (Value.int .u8)) ∧ Below w.heap.size w wr) (fun _ _ v5 _ => 4 - (intOf v5).toNat)
  case atStart => exact ⟨0, by omega, rfl, by simp, World.ownsRow_nil _ _ _ _, Below.refl _ _⟩
  case round =>
    obtain ⟨k, hk, rfl, rfl, hown, hb⟩ := hrel
    have hq0 : c / 256 ^ k < 4294967296 := Nat.lt_of_le_of_lt (Nat.div_le_self _ _) hlt
    have hq1 : c / 256 ^ (k + 1) = c / 256 ^ k / 256 := by rw [Nat.pow_succ, Nat.div_div_eq_div_mul]
    have hq2 : k < 4 → (Crc.fourL c).take (k + 1) = (Crc.fourL c).take k ++ [((c / 256 ^ k : Nat) : Int) % 256] := Crc.fourL_take c k hlt
    generalize c / 256 ^ k = q at *
    have HQ1 := Lib.hid hq1; clear hq1
    have HQ2 := Lib.hid hq2; clear hq2
    have hbs := hb.size
    by_cases h4 : k < 4
    · go_wp2_with (at_builtin; go_must (refine wpList_append_own _ rfl _ _ 71 rfl w.heap.size 5 i0 (.int .u8 0) 1 1 Tryz.underlying71 hi hz0 hz1 hz2 rfl (by decide) _ _ _ rfl (hown.alloc _) ⟨wr.heap.size, 0, none⟩ 1 1 [.int .u8 ((q : Int) % 256)] rfl rfl (cell_one_new _ _ _) (by simp [Value.oneCell']) (by unfold maxLen; omega) (by omega) (by simp; omega) ?_); intro v' w1 hown' hgrow _)
      go_roundw
      case rel =>
        refine ⟨k + 1, by omega, by go_num, by rw [HQ1.out]; go_num, ?_, ?_⟩
        · rw [HQ2.out h4, List.map_append]; exact hown'
        · exact (hb.alloc hbs _).grown hgrow (by simp; omega) (fun b hv => (hown.lt b hv).1)
      case measure => simp [intOf]; omega
    · obtain rfl : k = 4 := by omega
      have hconv := fun dst (hd : Tryz.prog.underlying dst = some .string) => own_string (P := Tryz.prog) (src := 71) (dst := dst) _ Tryz.underlying71 Tryz.underlying5 hd hown
      have hc9 := hconv 9 Tryz.underlying9
      clear hconv
      go_wp2
      go_ret
      refine ⟨?_, hb⟩
      rw [HC.out]; rfl
end Go.Proofs.YtokofifecdpmfaaGreatDoor
