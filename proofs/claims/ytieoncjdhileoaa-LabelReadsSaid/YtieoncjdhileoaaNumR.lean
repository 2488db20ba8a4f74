/-
  What the functions of the reference alluviumref03 come to: Small, Wide, Text, Zig, Zag.
-/
import Derived.Test.YtieoncjdhileoaaNumG
namespace Go.Proofs.Ytieoncjdhileoaa
open Go.RowKit

theorem Try.info5 : (Try.prog.info? 5).map (fun i => (i.zero, i.size, i.bytes)) = some (some (.int .u8 0), 1, 1) := by kernel_rfl

theorem Num.wrap_div128 (m : Nat) (h : m < 18446744073709551616) : IntKind.u64.wrap ((m : Int) / 128) = (m : Int) / 128 := by
  rw [IntKind.wrap_u64]; omega
theorem Num.wrap_div256 (m : Nat) (h : m < 18446744073709551616) : IntKind.u64.wrap ((m : Int) / 256) = (m : Int) / 256 := by
  rw [IntKind.wrap_u64]; omega

set_option maxRecDepth 100000 in
set_option maxHeartbeats 400000 in
theorem rSmall_any (n : Nat) (hn0 : Hid (n < 18446744073709551616)) (w : World) :
    Calls Try.prog 50 #[.int .u64 n] w fun e w' => e = .returned (.string (Num.smallB n)) ∧ Below w.heap.size w w' := by
  obtain ⟨i0, hi, hz0, hz1, hz2⟩ := info_parts Try.info5
  go_enter Try.func50, Try.ntmps50
  go_wp2
  go_loopw [0, 3] (fun v b wr => ∃ (pre : List UInt8) (m : Nat), v = .int .u64 m ∧ pre.length ≤ 9 ∧ m < 2 * 128 ^ (9 - pre.length) ∧ Num.small n = pre ++ Num.enc (9 - pre.length) m ∧ wr.ownsRow w.heap.size 5 1 b pre.length (byteVals pre) ∧ Below w.heap.size w wr) (fun v _ _ => (intOf v).toNat)
  case atStart => exact ⟨[], n, rfl, by simp, by have hn := hn0.out; simp; omega, rfl, World.ownsRow_nil _ _ _ _, Below.refl _ _⟩
  case round =>
    obtain ⟨pre, m, rfl, hp, hm, hs, hown, hb⟩ := hrel
    have hmm : m < 18446744073709551616 := Nat.lt_of_lt_of_le hm (by have : 128 ^ (9 - pre.length) ≤ 128 ^ 9 := Nat.pow_le_pow_right (by decide) (by omega); omega)
    have HS := Lib.hid hs; clear hs
    have HMM := Lib.hid hmm; clear hmm
    have hbs := hb.size
    by_cases hc : 128 ≤ m
    · have hp8 : pre.length ≤ 8 := by
        rcases Nat.lt_or_ge pre.length 9 with h | h
        · omega
        · rw [show 9 - pre.length = 0 from by omega] at hm; simp at hm; omega
      have hx : (((UInt8.ofNat (m % 128 + 128)).toNat : Nat) : Int) = (m : Int) % 128 + 128 := by simp; omega
      have HX := Lib.hid hx; clear hx
      have HM := Lib.hid hm; clear hm
      have hwm := Num.wrap_div128 m HMM.out
      go_wp2_with (at_builtin; go_must (refine wpList_append_own _ rfl _ _ 42 rfl (w.heap.size) 5 i0 (.int .u8 0) 1 1 Try.underlying42 hi hz0 hz1 hz2 rfl (by decide) _ _ _ rfl (hown.alloc _) ⟨(wr).heap.size, 0, none⟩ 1 1 [.int .u8 ((m : Int) % 128 + 128)] rfl rfl (cell_one_new _ _ _) (by simp [Value.oneCell']) (by unfold maxLen; omega) (by omega) (by simp; omega) ?_); intro v' w1 hown' hgrow _)
      go_roundw
      case rel =>
        refine ⟨pre ++ [UInt8.ofNat (m % 128 + 128)], m / 128, by go_num, by simp; omega, ?_, ?_, ?_, (hb.alloc hbs _).grown hgrow (by simp; omega) (fun b hv => (hown.lt b hv).1)⟩
        · have h2 := Num.pow_split pre.length hp8
          have h3 := HM.out
          simp only [List.length_append, List.length_cons, List.length_nil, Nat.zero_add]
          rw [h2] at h3
          omega
        · rw [HS.out, List.append_assoc]
          congr 1
          rw [show 9 - pre.length = (9 - (pre ++ [UInt8.ofNat (m % 128 + 128)]).length) + 1 from by simp; omega, Num.enc, if_pos hc]
          rfl
        · rw [byteVals_append, List.length_append]
          show w1.ownsRow _ _ _ _ _ (byteVals pre ++ [Value.int .u8 (((UInt8.ofNat (m % 128 + 128)).toNat : Nat) : Int)])
          rw [HX.out]; exact hown'
      case measure => simp [intOf]; omega
    · have hfin : Num.small n = pre ++ [UInt8.ofNat m] := by
        rw [HS.out]
        congr 1
        cases 9 - pre.length with
        | zero => rfl
        | succ f => rw [Num.enc, if_neg hc]
      have hx : (((UInt8.ofNat m).toNat : Nat) : Int) = (m : Int) := by simp; omega
      have HX := Lib.hid hx; have HF := Lib.hid hfin; clear hx hfin
      go_wp2_with (at_builtin; go_must (refine wpList_append_own _ rfl _ _ 42 rfl (w.heap.size) 5 i0 (.int .u8 0) 1 1 Try.underlying42 hi hz0 hz1 hz2 rfl (by decide) _ _ _ rfl (hown.alloc _) ⟨(wr).heap.size, 0, none⟩ 1 1 [.int .u8 (m : Int)] rfl rfl (cell_one_new _ _ _) (by simp [Value.oneCell']) (by unfold maxLen; omega) (by omega) (by simp; omega) ?_); intro v' w1 hown' hgrow _)
      have hown2 : w1.ownsRow w.heap.size 5 1 v' (pre.length + 1) (byteVals (pre ++ [UInt8.ofNat m])) := by
        rw [byteVals_append]
        show w1.ownsRow _ _ _ _ _ (byteVals pre ++ [Value.int .u8 (((UInt8.ofNat m).toNat : Nat) : Int)])
        rw [HX.out]; exact hown'
      rw [own_bytes (P := Try.prog) (src := 42) (dst := 9) _ Try.underlying42 Try.underlying5 Try.underlying9 hown2]
      go_wp2
      go_ret
      refine ⟨?_, (hb.alloc hbs _).grown hgrow (by simp; omega) (fun b hv => (hown.lt b hv).1)⟩
      unfold Num.smallB
      rw [HF.out]; rfl

theorem Num.small_size (n : Nat) : (smallB n).size ≤ 10 := Num.enc_length_le 9 _

set_option maxRecDepth 100000 in
set_option maxHeartbeats 400000 in
theorem rText_any (s : ByteArray) (hs : s.size ≤ 300) (w : World) :
    Calls Try.prog 40 #[.string s] w fun e w' => e = .returned (.string (Num.smallB s.size ++ s)) ∧ Below w.heap.size w w' := by
  have hw := Num.wrap_small s.size (by omega)
  have hz := Num.small_size s.size
  have HZ := Lib.hid hz; clear hz
  go_enter Try.func40, Try.ntmps40
  go_wp2_with fail
  refine (rSmall_any s.size (Lib.hid (by omega)) _).mono ?_; rintro e w1 ⟨rfl, hb1⟩; have HB1 := Lib.hid hb1; clear hb1
  have hz := HZ.out
  go_wp2_with fail
  go_ret
  exact ⟨rfl, HB1.out⟩

end Go.Proofs.Ytieoncjdhileoaa
