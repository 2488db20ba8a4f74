/-
  What the functions of the reference alluviumref01 come to: run.
-/
import Derived.Test.YtokofifecdpmfaaGreatDoorBase
import Derived.Test.YtokofifecdpmfaaGreatDoorMathA
namespace Go.Proofs.YtokofifecdpmfaaGreatDoor
open Go.RowKit

set_option maxHeartbeats 400000 in
theorem run_any (c : Nat) (hc : c < 4294967296) (s : ByteArray) (hs : s.size ≤ maxLen) (w : World) :
    Calls Tryz.prog 91 #[.int .u32 c, .string s] w fun e w' => e = .returned (.int .u32 (Crc.run c s.data.toList)) ∧ w = w' := by
  unfold maxLen at hs
  go_enter Tryz.func91, Tryz.ntmps91
  go_wp2
  go_loop [0, 5] (fun v i => ∃ k : Nat, k ≤ s.size ∧ i = .int .i64 k ∧ v = .int .u32 (Crc.run c (s.data.toList.take k))) (fun _ i => s.size - (intOf i).toNat)
  case atStart => exact ⟨0, Nat.zero_le _, rfl, rfl⟩
  case round =>
    obtain ⟨k, hk, rfl, rfl⟩ := hrel
    have hlt := Crc.run_lt (s.data.toList.take k) hc
    generalize hR : Crc.run c (s.data.toList.take k) = r at *
    have HR := Lib.hid hR; clear hR
    by_cases h : k < s.size
    · have hb := Crc.u8_lt s[k]
      have hx : bits BinOp.xor IntKind.u32 (r : Int) (s[k].toNat : Int) = ((r ^^^ s[k].toNat : Nat) : Int) := u32_xor_nat _ _ hlt hb
      have hc1 := Crc.xor_lt hlt hb
      have HB : Hid (Crc.run c (s.data.toList.take (k + 1)) = Crc.steps 8 (r ^^^ s[k].toNat)) := by
        rw [← HR.out]; exact Crc.run_take c s k h
      generalize r ^^^ s[k].toNat = c1 at *
      go_wp2
      clear hx
      go_loop [0, 6] (fun v j => ∃ m : Nat, m ≤ 8 ∧ j = .int .i64 m ∧ v = .int .u32 (Crc.steps m c1)) (fun _ j => 8 - (intOf j).toNat)
      case atStart => exact ⟨0, by omega, rfl, rfl⟩
      case round =>
        obtain ⟨m, hm, rfl, rfl⟩ := hrel
        have hlt2 := Crc.steps_lt m hc1
        have hs := Crc.steps_succ m c1
        generalize hR2 : Crc.steps m c1 = c2 at *
        have HR2 := Lib.hid hR2; clear hR2
        have HS := Lib.hid hs; clear hs
        by_cases hm8 : m < 8
        · by_cases hodd : c2 % 2 = 1
          · have hx2 : bits BinOp.xor IntKind.u32 ((c2 : Int) / 2) 2197175160 = ((c2 / 2 ^^^ Crc.poly : Nat) : Int) :=
              u32_xor_nat (c2 / 2) Crc.poly (by omega) Crc.poly_lt
            go_wp2
            go_round
            case rel => exact ⟨m + 1, by omega, by go_num, by rw [HS.out, Crc.step, if_pos hodd]⟩
            case measure => simp [intOf]; omega
          · go_wp2
            go_round
            case rel => exact ⟨m + 1, by omega, by go_num, by rw [HS.out, Crc.step, if_neg hodd]; go_num⟩
            case measure => simp [intOf]; omega
        · go_wp2
          go_round
          case rel => exact ⟨k + 1, by omega, by go_num, by rw [HB.out, ← HR2.out, show m = 8 from by omega]⟩
          case measure => simp [intOf]; omega
    · go_wp2
      go_ret
      exact ⟨ret_int (by rw [← HR.out, List.take_of_length_le (by simp; omega)]), rfl⟩
end Go.Proofs.YtokofifecdpmfaaGreatDoor
