import Derived.Test.YtfgcgjogaaofdaaGreatDoorNumO
import Derived.Test.YtfgcgjogaaofdaaGreatDoorFrM
import Derived.Deep.DeepMust
/-
  What the functions of the reference alluviumref03 come to: Small, Wide, Text, Zig, Zag.
-/
namespace Go.Proofs.YtfgcgjogaaofdaaGreatDoor
open Go.RowKit

theorem Tryz.info5 : (Tryz.prog.info? 5).map (fun i => (i.zero, i.size, i.bytes)) = some (some (.int .u8 0), 1, 1) := by kernel_rfl

theorem Num.wrap_div128 (m : Nat) (h : m < 18446744073709551616) : IntKind.u64.wrap ((m : Int) / 128) = (m : Int) / 128 := by
  rw [IntKind.wrap_u64]; omega
theorem Num.wrap_div256 (m : Nat) (h : m < 18446744073709551616) : IntKind.u64.wrap ((m : Int) / 256) = (m : Int) / 256 := by
  rw [IntKind.wrap_u64]; omega

set_option maxRecDepth 100000 in
set_option maxHeartbeats 400000 in
theorem rSmall_any (n : Nat) (hn0 : Hid (n < 18446744073709551616)) (w : World) :
    Calls Tryz.prog 15 #[.int .u64 n] w fun e w' => e = .returned (.string (Num.smallB n)) ∧ Below w.heap.size w w' := by
  obtain ⟨i0, hi, hz0, hz1, hz2⟩ := info_parts Tryz.info5
  go_enter Tryz.func15, Tryz.ntmps15
  go_wp2
  go_loopw [0, 3] (fun v b wr => ∃ (pre : List UInt8) (m : Nat), v = .int .u64 m ∧ pre.length ≤ 9 ∧ m < 2 * 128 ^ (9 - pre.length) ∧ Num.small n = pre ++ Num.enc (9 - pre.length) m ∧ wr.ownsRow w.heap.size 5 1 b pre.length (byteVals pre) ∧ Below w.heap.size w wr) (fun v _ _ => (intOf v).toNat)
  case atStart => exact ⟨[], n, rfl, by simp, by have hn := hn0.out; simp; omega, rfl, World.ownsRow_nil _ _ _ _, Below.refl _ _⟩
  case round =>
    obtain ⟨pre, m, rfl, hp, hm, hs, hown, hb⟩ := hrel
    have hmm : m < 18446744073709551616 := Nat.lt_of_lt_of_le hm (by have : 128 ^ (9 - pre.length) ≤ 128 ^ 9 := Nat.pow_le_pow_right (by decide) (by omega); omega)
    have HS := Lib.hid hs; clear hs
    have HMM := Lib.hid hmm; clear hmm
    have hbs := hb.size
    by_cases hc : 128 ≤ m
    · have hp8 : pre.length ≤ 8 := by
        rcases Nat.lt_or_ge pre.length 9 with h | h
        · omega
        · rw [show 9 - pre.length = 0 from by omega] at hm; simp at hm; omega
      have hx : (((UInt8.ofNat (m % 128 + 128)).toNat : Nat) : Int) = (m : Int) % 128 + 128 := by simp; omega
      have HX := Lib.hid hx; clear hx
      have HM := Lib.hid hm; clear hm
      have hwm := Num.wrap_div128 m HMM.out
      go_wp2_with (at_builtin; go_must (refine wpList_append_own _ rfl _ _ 60 rfl (w.heap.size) 5 i0 (.int .u8 0) 1 1 Tryz.underlying60 hi hz0 hz1 hz2 rfl (by decide) _ _ _ rfl (hown.alloc _) ⟨(wr).heap.size, 0, none⟩ 1 1 [.int .u8 ((m : Int) % 128 + 128)] rfl rfl (cell_one_new _ _ _) (by simp [Value.oneCell']) (by unfold maxLen; omega) (by omega) (by simp; omega) ?_); intro v' w1 hown' hgrow _)
      go_roundw
      case rel =>
        refine ⟨pre ++ [UInt8.ofNat (m % 128 + 128)], m / 128, by go_num, by simp; omega, ?_, ?_, ?_, (hb.alloc hbs _).grown hgrow (by simp; omega) (fun b hv => (hown.lt b hv).1)⟩
        · have h2 := Num.pow_split pre.length hp8
          have h3 := HM.out
          simp only [List.length_append, List.length_cons, List.length_nil, Nat.zero_add]
          rw [h2] at h3
          omega
        · rw [HS.out, List.append_assoc]
          congr 1
          rw [show 9 - pre.length = (9 - (pre ++ [UInt8.ofNat (m % 128 + 128)]).length) + 1 from by simp; omega, Num.enc, if_pos hc]
          rfl
        · rw [byteVals_append, List.length_append]
          show w1.ownsRow _ _ _ _ _ (byteVals pre ++ [Value.int .u8 (((UInt8.ofNat (m % 128 + 128)).toNat : Nat) : Int)])
          rw [HX.out]; exact hown'
      case measure => simp [intOf]; omega
    · have hfin : Num.small n = pre ++ [UInt8.ofNat m] := by
        rw [HS.out]
        congr 1
        cases 9 - pre.length with
        | zero => rfl
        | succ f => rw [Num.enc, if_neg hc]
      have hx : (((UInt8.ofNat m).toNat : Nat) : Int) = (m : Int) := by simp; omega
      have HX := Lib.hid hx; have HF := Lib.hid hfin; clear hx hfin
      go_wp2_with (at_builtin; go_must (refine wpList_append_own _ rfl _ _ 60 rfl (w.heap.size) 5 i0 (.int .u8 0) 1 1 Tryz.underlying60 hi hz0 hz1 hz2 rfl (by decide) _ _ _ rfl (hown.alloc _) ⟨(wr).heap.size, 0, none⟩ 1 1 [.int .u8 (m : Int)] rfl rfl (cell_one_new _ _ _) (by simp [Value.oneCell']) (by unfold maxLen; omega) (by omega) (by simp; omega) ?_); intro v' w1 hown' hgrow _)
      have hown2 : w1.ownsRow w.heap.size 5 1 v' (pre.length + 1) (byteVals (pre ++ [UInt8.ofNat m])) := by
        rw [byteVals_append]
        show w1.ownsRow _ _ _ _ _ (byteVals pre ++ [Value.int .u8 (((UInt8.ofNat m).toNat : Nat) : Int)])
        rw [HX.out]; exact hown'
      rw [own_bytes (P := Tryz.prog) (src := 60) (dst := 9) _ Tryz.underlying60 Tryz.underlying5 Tryz.underlying9 hown2]
      go_wp2
      go_ret
      refine ⟨?_, (hb.alloc hbs _).grown hgrow (by simp; omega) (fun b hv => (hown.lt b hv).1)⟩
      unfold Num.smallB
      rw [HF.out]; rfl

set_option maxRecDepth 100000 in
set_option maxHeartbeats 400000 in
theorem rWide_any (n : Nat) (hn0 : Hid (n < 18446744073709551616)) (w : World) :
    Calls Tryz.prog 16 #[.int .u64 n] w fun e w' => e = .returned (.string (Num.wideB n)) ∧ Below w.heap.size w w' := by
  obtain ⟨i0, hi, hz0, hz1, hz2⟩ := info_parts Tryz.info5
  go_enter Tryz.func16, Tryz.ntmps16
  go_wp2
  go_loopw [0, 3, 4] (fun v b i wr => ∃ k : Nat, k ≤ 8 ∧ i = .int .i64 k ∧ v = .int .u64 (n / 256 ^ k : Nat) ∧ wr.ownsRow w.heap.size 5 1 b k (byteVals (Num.le n k)) ∧ Below w.heap.size w wr) (fun _ _ i _ => 8 - (intOf i).toNat)
  case atStart => exact ⟨0, by omega, rfl, by simp, World.ownsRow_nil _ _ _ _, Below.refl _ _⟩
  case round =>
    obtain ⟨k, hk, rfl, rfl, hown, hb⟩ := hrel
    have hbs := hb.size
    by_cases h8 : k < 8
    · have hx : (((UInt8.ofNat (n / 256 ^ k % 256)).toNat : Nat) : Int) = ((n / 256 ^ k : Nat) : Int) % 256 := by simp
      have hnx : n / 256 ^ (k + 1) = n / 256 ^ k / 256 := by rw [Nat.pow_succ, Nat.div_div_eq_div_mul]
      have hq : n / 256 ^ k < 18446744073709551616 := Nat.lt_of_le_of_lt (Nat.div_le_self _ _) hn0.out
      have hwq := Num.wrap_div256 _ hq
      have HX := Lib.hid hx; have HNX := Lib.hid hnx
      clear hx hnx hq
      obtain ⟨q, hq⟩ : ∃ q, n / 256 ^ k = q := ⟨_, rfl⟩
      rw [hq] at hwq ⊢
      have HQ := Lib.hid hq; clear hq
      go_wp2_with (at_builtin; go_must (refine wpList_append_own _ rfl _ _ 60 rfl (w.heap.size) 5 i0 (.int .u8 0) 1 1 Tryz.underlying60 hi hz0 hz1 hz2 rfl (by decide) _ _ _ rfl (hown.alloc _) ⟨(wr).heap.size, 0, none⟩ 1 1 [.int .u8 ((q : Int) % 256)] rfl rfl (cell_one_new _ _ _) (by simp [Value.oneCell']) (by unfold maxLen; omega) (by omega) (by simp; omega) ?_); intro v' w1 hown' hgrow _)
      go_roundw
      case rel =>
        refine ⟨k + 1, by omega, by go_num, by rw [HNX.out, HQ.out]; go_num, ?_, (hb.alloc hbs _).grown hgrow (by simp; omega) (fun b hv => (hown.lt b hv).1)⟩
        show w1.ownsRow _ _ _ _ _ (byteVals (Num.le n k ++ [UInt8.ofNat (n / 256 ^ k % 256)]))
        rw [byteVals_append]
        show w1.ownsRow _ _ _ _ _ (byteVals (Num.le n k) ++ [Value.int .u8 (((UInt8.ofNat (n / 256 ^ k % 256)).toNat : Nat) : Int)])
        rw [HX.out, HQ.out]; exact hown'
      case measure => simp [intOf]; omega
    · obtain rfl : k = 8 := by omega
      have hc := own_bytes (P := Tryz.prog) (src := 60) (dst := 9) _ Tryz.underlying60 Tryz.underlying5 Tryz.underlying9 hown
      go_wp2
      go_ret
      exact ⟨rfl, hb⟩

theorem Num.small_size (n : Nat) : (smallB n).size ≤ 10 := Num.enc_length_le 9 _

set_option maxRecDepth 100000 in
set_option maxHeartbeats 400000 in
theorem rText_any (s : ByteArray) (hs : s.size ≤ 100000) (w : World) :
    Calls Tryz.prog 18 #[.string s] w fun e w' => e = .returned (.string (Num.smallB s.size ++ s)) ∧ Below w.heap.size w w' := by
  have hw := Num.wrap_small s.size (by omega)
  have hz := Num.small_size s.size
  have HZ := Lib.hid hz; clear hz
  go_enter Tryz.func18, Tryz.ntmps18
  go_wp2_with fail
  refine (rSmall_any s.size (Lib.hid (by omega)) _).mono ?_; rintro e w1 ⟨rfl, hb1⟩; have HB1 := Lib.hid hb1; clear hb1
  have hz := HZ.out
  go_wp2_with fail
  go_ret
  exact ⟨rfl, HB1.out⟩

set_option maxRecDepth 100000 in
set_option maxHeartbeats 400000 in
theorem rZig_any (n : Int) (hn : Hid (-9223372036854775808 ≤ n ∧ n ≤ 9223372036854775807)) (w : World) :
    Calls Tryz.prog 17 #[.int .i64 n] w fun e w' => e = .returned (.int .u64 (Num.zig n : Nat)) ∧ w = w' := by
  by_cases hp : 0 ≤ n
  all_goals
    go_enter Tryz.func17, Tryz.ntmps17
    go_wp2
    go_ret
    refine ⟨ret_int ?_, rfl⟩
    have h := hn.out
    unfold Num.zig
    first | rw [if_pos hp] | rw [if_neg (by omega)]
    simp only [wrap64, IntKind.wrap_u64]
    omega

end Go.Proofs.YtfgcgjogaaofdaaGreatDoor
/-
  What the functions of the reference alluviumref01 come to: Of, On, Tail, Good.
-/
namespace Go.Proofs.YtfgcgjogaaofdaaGreatDoor
open Go.RowKit

theorem Crc.fourL_take (c k : Nat) (hc : c < 4294967296) (h : k < 4) : (fourL c).take (k + 1) = (fourL c).take k ++ [((c / 256 ^ k : Nat) : Int) % 256] := by
  unfold fourL
  obtain rfl | rfl | rfl | rfl : k = 0 ∨ k = 1 ∨ k = 2 ∨ k = 3 := by omega
  all_goals simp only [List.take, List.nil_append, List.cons_append, List.cons.injEq, true_and, and_true, Nat.reducePow, Nat.div_one]
  all_goals omega

set_option maxRecDepth 100000 in
set_option maxHeartbeats 400000 in
theorem rOf_any (s : ByteArray) (hs : s.size ≤ maxLen) (w : World) :
    Calls Tryz.prog 30 #[.string s] w fun e w' => e = .returned (.int .u32 (Crc.ofB s : Nat)) ∧ w = w' := by
  have hlt := Crc.run_lt s.data.toList (c := 4294967295) (by omega)
  have hn : (4294967295 : Int) - (Crc.run 4294967295 s.data.toList : Nat) = (Crc.ofB s : Nat) := by unfold Crc.ofB; omega
  have HN := Lib.hid hn; clear hn
  go_enter Tryz.func30, Tryz.ntmps30
  go_wp2_with (go_at_call 44; refine (run_any 4294967295 (by omega) s hs _).mono ?_; rintro e w1 ⟨rfl, rfl⟩)
  go_ret
  exact ⟨ret_int HN.out, rfl⟩


set_option maxRecDepth 100000 in
set_option maxHeartbeats 400000 in
theorem rTail_any (s : ByteArray) (hs : s.size ≤ maxLen) (w : World) :
    Calls Tryz.prog 21 #[.string s] w fun e w' => e = .returned (.string (Crc.four (Crc.ofB s))) ∧ Below w.heap.size w w' := by
  obtain ⟨i0, hi, hz0, hz1, hz2⟩ := info_parts Tryz.info5
  have hlt := Crc.ofB_lt s
  go_enter Tryz.func21, Tryz.ntmps21
  go_wp2_with (go_at_call 30; refine (rOf_any s hs _).mono ?_; rintro e w1 ⟨rfl, rfl⟩)
  generalize hC : Crc.ofB s = c at *
  have HC := Lib.hid hC; clear hC
  go_loopw [3, 4, 5] (fun v3 v4 v5 wr => ∃ k : Nat, k ≤ 4 ∧ v5 = .int .i64 k ∧ v3 = .int .u32 (c / 256 ^ k : Nat) ∧ wr.ownsRow w.heap.size 5 1 v4 k (((Crc.fourL c).take k).map (Value.int .u8)) ∧ Below w.heap.size w wr) (fun _ _ v5 _ => 4 - (intOf v5).toNat)
  case atStart => exact ⟨0, by omega, rfl, by simp, World.ownsRow_nil _ _ _ _, Below.refl _ _⟩
  case round =>
    obtain ⟨k, hk, rfl, rfl, hown, hb⟩ := hrel
    have hq0 : c / 256 ^ k < 4294967296 := Nat.lt_of_le_of_lt (Nat.div_le_self _ _) hlt
    have hq1 : c / 256 ^ (k + 1) = c / 256 ^ k / 256 := by rw [Nat.pow_succ, Nat.div_div_eq_div_mul]
    have hq2 : k < 4 → (Crc.fourL c).take (k + 1) = (Crc.fourL c).take k ++ [((c / 256 ^ k : Nat) : Int) % 256] := Crc.fourL_take c k hlt
    generalize c / 256 ^ k = q at *
    have HQ1 := Lib.hid hq1; clear hq1
    have HQ2 := Lib.hid hq2; clear hq2
    have hbs := hb.size
    by_cases h4 : k < 4
    · go_wp2_with (at_builtin; go_must (refine wpList_append_own _ rfl _ _ 60 rfl w.heap.size 5 i0 (.int .u8 0) 1 1 Tryz.underlying60 hi hz0 hz1 hz2 rfl (by decide) _ _ _ rfl (hown.alloc _) ⟨wr.heap.size, 0, none⟩ 1 1 [.int .u8 ((q : Int) % 256)] rfl rfl (cell_one_new _ _ _) (by simp [Value.oneCell']) (by unfold maxLen; omega) (by omega) (by simp; omega) ?_); intro v' w1 hown' hgrow _)
      go_roundw
      case rel =>
        refine ⟨k + 1, by omega, by go_num, by rw [HQ1.out]; go_num, ?_, ?_⟩
        · rw [HQ2.out h4, List.map_append]; exact hown'
        · exact (hb.alloc hbs _).grown hgrow (by simp; omega) (fun b hv => (hown.lt b hv).1)
      case measure => simp [intOf]; omega
    · obtain rfl : k = 4 := by omega
      have hconv := fun dst (hd : Tryz.prog.underlying dst = some .string) => own_string (P := Tryz.prog) (src := 60) (dst := dst) _ Tryz.underlying60 Tryz.underlying5 hd hown
      have hc9 := hconv 9 Tryz.underlying9
      clear hconv
      go_wp2
      go_ret
      refine ⟨?_, hb⟩
      rw [HC.out]; rfl
end Go.Proofs.YtfgcgjogaaofdaaGreatDoor
