import Derived.Test.YtfgcgjogaaofdaaGreatDoorStB
import Derived.Test.YtfgcgjogaaofdaaGreatDoorStructs
/-
  What Cost of package stamp, and Put of the reference, come to.
-/
namespace Go.Proofs.YtfgcgjogaaofdaaGreatDoor
open Go.RowKit

theorem St.str_marks : (⟨#[48]⟩ : ByteArray) = Bit.str (Bit.of 0 1) ∧ (⟨#[49, 48]⟩ : ByteArray) = Bit.str (Bit.of 2 2) ∧ (⟨#[49, 49, 48]⟩ : ByteArray) = Bit.str (Bit.of 6 3) ∧ (⟨#[49, 49, 49, 48]⟩ : ByteArray) = Bit.str (Bit.of 14 4) ∧ (⟨#[49, 49, 49, 49]⟩ : ByteArray) = Bit.str (Bit.of 15 4) := by
  refine ⟨?_, ?_, ?_, ?_, ?_⟩ <;> decide +kernel
theorem wrap64_wrap64 (y : Int) : wrap64 (wrap64 y) = wrap64 y := by unfold wrap64; omega
set_option maxRecDepth 100000 in
set_option maxHeartbeats 4000000 in
theorem rPut_any (s : St.S) (t : Int) (w : World) :
    Calls Tryz.prog 39 #[s.val, .int .i64 t] w fun e w' => e = .returned (.tuple #[.string (Bit.str (s.code t)), (s.next t).val]) ∧ Below w.heap.size w w' := by
  obtain ⟨n, x, d⟩ := s
  have hcd : (St.S.mk n x d).code t = if n = 0 then Bit.of (St.uw t).toNat 64 else St.code (wrap64 (wrap64 (t - x) - d)) := rfl
  have hnx : (St.S.mk n x d).next t = if n = 0 then ⟨1, t, 0⟩ else ⟨wrap64 (n + 1), t, wrap64 (t - x)⟩ := rfl
  rw [hnx]; clear hnx
  generalize (St.S.mk n x d).code t = C at *
  unfold St.S.val
  by_cases h : n = 0
  · subst h
    simp only [if_pos] at hcd ⊢
    have hur := St.uw_range t
    obtain ⟨u, hu⟩ : ∃ u : Nat, St.uw t = u := ⟨(St.uw t).toNat, by omega⟩
    have HU : Hid (u < 18446744073709551616) := Lib.hid (by omega)
    rw [hu, Int.toNat_natCast] at hcd
    have hu2 : IntKind.u64.wrap t = (u : Int) := hu
    clear hur hu
    subst hcd
    go_enter Tryz.func39, Tryz.ntmps39
    go_wp2_with fail
    refine (rBits_any u HU 64 _).mono ?_; rintro e wx ⟨rfl, rfl⟩
    go_wp2_with fail
    refine bodyPost_ret (v := .tuple #[.string (Bit.str (Bit.of u 64)), .agg #[.int .i64 1, .int .i64 t, .int .i64 0]]) ?_ rfl ⟨rfl, ?_⟩
    · simp [results, go_sem]
      rfl
    · exact ((Below.refl _ _).alloc (Nat.le_refl _) _).alloc (by simp) _
  · rw [if_neg h] at hcd ⊢
    have h2 : (n == 0) = false := by simp [h]
    generalize hdd : wrap64 (t - x) = dd at *
    generalize hc : wrap64 (dd - d) = c at *
    have hbits : ∀ k, St.cls c = k → Bit.str C = Bit.str (Bit.of (St.mark k) (St.marks k)) ++ Bit.str (Bit.of (St.uw (St.sw (c + St.plus k))).toNat (St.size k)) := fun k hk => by
      rw [hcd, St.code, hk, Bit.str_append]
    have hcr : wrap64 (c + 0) = c := by rw [Int.add_zero, ← hc, wrap64_wrap64]
    clear hcd
    obtain ⟨m0, m1, m2, m3, m4⟩ := St.str_marks
    rcases St.cls_cases c with ⟨q, hk⟩ | ⟨q0, q1, q2, hk⟩ | ⟨q0 | q0, q1, q2, hk⟩ | ⟨q0 | q0, q1, q2, hk⟩ | ⟨q0 | q0, hk⟩
    · have hb := hbits 0 hk
      have e0 : (c == 0) = true := by simp [q]
      have hb2 : Bit.str C = ⟨#[48]⟩ := by rw [hb, m0]; exact Bit.str_append _ _
      rw [hb2]
      clear hb hbits hk m0 m1 m2 m3 m4 hb2 hcr q
      subst hc hdd
      go_enter Tryz.func39, Tryz.ntmps39
      go_wp2_with fail
      go_region
      go_wp2_with fail
      refine bodyPost_ret (v := .tuple #[.string ⟨#[48]⟩, .agg #[.int .i64 (wrap64 (n + 1)), .int .i64 t, .int .i64 (wrap64 (t - x))]]) ?_ rfl ⟨rfl, ?_⟩
      · simp [results, go_sem]
        try rfl
      · exact (((Below.refl _ _).alloc (Nat.le_refl _) _).alloc (by simp) _).grown ⟨rfl, rfl, rfl, Nat.le_refl _, fun _ _ _ => rfl⟩ (row := none) (by simp; omega) (fun r e => by cases e)
    · have hb := hbits 1 hk
      obtain ⟨u, hu, HU⟩ : ∃ u : Nat, IntKind.u64.wrap (wrap64 (c + 63)) = (u : Int) ∧ Hid (u < 18446744073709551616) := by
        have hur := St.uw_range (wrap64 (c + 63))
        exact ⟨(St.uw (wrap64 (c + 63))).toNat, (Int.toNat_of_nonneg hur.1).symm, Lib.hid (by omega)⟩
      have hb2 : Bit.str C = ⟨#[49, 48]⟩ ++ Bit.str (Bit.of u 7) := by
        rw [hb, m1]
        have : (St.uw (St.sw (c + St.plus 1))).toNat = u := by
          show (IntKind.u64.wrap (wrap64 (c + 63))).toNat = u
          rw [hu]; rfl
        rw [this]; rfl
      have e0 : (c == 0) = false := by simp; omega
      have a1 : decide (-63 ≤ c) = true := by simp; omega
      have b1 : decide (c ≤ 64) = true := by simp; omega
      rw [hb2]
      clear hb hbits hk m0 m1 m2 m3 m4 hb2 hcr q0 q1 q2
      subst hc hdd
      go_enter Tryz.func39, Tryz.ntmps39
      go_wp2_with fail
      refine (rBits_any u HU 7 _).mono ?_; rintro e wx ⟨rfl, rfl⟩
      have hsz : ¬ 9223372036854775807 < (⟨#[49, 48]⟩ : ByteArray).size + (Bit.str (Bit.of u (Bit.wd 7))).size := by
        rw [Bit.str_size, Bit.of_length]
        have := Bit.wd_le 7
        have h0 : (⟨#[49, 48]⟩ : ByteArray).size = 2 := rfl
        omega
      go_wp2_with fail
      go_region
      go_wp2_with fail
      refine bodyPost_ret (v := .tuple #[.string (⟨#[49, 48]⟩ ++ Bit.str (Bit.of u 7)), .agg #[.int .i64 (wrap64 (n + 1)), .int .i64 t, .int .i64 (wrap64 (t - x))]]) ?_ rfl ⟨rfl, ?_⟩
      · simp [results, go_sem]
        try rfl
      · exact (((Below.refl _ _).alloc (Nat.le_refl _) _).alloc (by simp) _).grown ⟨rfl, rfl, rfl, Nat.le_refl _, fun _ _ _ => rfl⟩ (row := none) (by simp; omega) (fun r e => by cases e)
    · have hb := hbits 2 hk
      obtain ⟨u, hu, HU⟩ : ∃ u : Nat, IntKind.u64.wrap (wrap64 (c + 255)) = (u : Int) ∧ Hid (u < 18446744073709551616) := by
        have hur := St.uw_range (wrap64 (c + 255))
        exact ⟨(St.uw (wrap64 (c + 255))).toNat, (Int.toNat_of_nonneg hur.1).symm, Lib.hid (by omega)⟩
      have hb2 : Bit.str C = ⟨#[49, 49, 48]⟩ ++ Bit.str (Bit.of u 9) := by
        rw [hb, m2]
        have : (St.uw (St.sw (c + St.plus 2))).toNat = u := by
          show (IntKind.u64.wrap (wrap64 (c + 255))).toNat = u
          rw [hu]; rfl
        rw [this]; rfl
      have e0 : (c == 0) = false := by simp; omega
      have a1 : decide (-63 ≤ c) = false := by simp; omega
      have a2 : decide (-255 ≤ c) = true := by simp; omega
      have b2 : decide (c ≤ 256) = true := by simp; omega
      rw [hb2]
      clear hb hbits hk m0 m1 m2 m3 m4 hb2 hcr q0 q1 q2
      subst hc hdd
      go_enter Tryz.func39, Tryz.ntmps39
      go_wp2_with fail
      refine (rBits_any u HU 9 _).mono ?_; rintro e wx ⟨rfl, rfl⟩
      have hsz : ¬ 9223372036854775807 < (⟨#[49, 49, 48]⟩ : ByteArray).size + (Bit.str (Bit.of u (Bit.wd 9))).size := by
        rw [Bit.str_size, Bit.of_length]
        have := Bit.wd_le 9
        have h0 : (⟨#[49, 49, 48]⟩ : ByteArray).size = 3 := rfl
        omega
      go_wp2_with fail
      go_region
      go_wp2_with fail
      refine bodyPost_ret (v := .tuple #[.string (⟨#[49, 49, 48]⟩ ++ Bit.str (Bit.of u 9)), .agg #[.int .i64 (wrap64 (n + 1)), .int .i64 t, .int .i64 (wrap64 (t - x))]]) ?_ rfl ⟨rfl, ?_⟩
      · simp [results, go_sem]
        try rfl
      · exact (((Below.refl _ _).alloc (Nat.le_refl _) _).alloc (by simp) _).grown ⟨rfl, rfl, rfl, Nat.le_refl _, fun _ _ _ => rfl⟩ (row := none) (by simp; omega) (fun r e => by cases e)
    · have hb := hbits 2 hk
      obtain ⟨u, hu, HU⟩ : ∃ u : Nat, IntKind.u64.wrap (wrap64 (c + 255)) = (u : Int) ∧ Hid (u < 18446744073709551616) := by
        have hur := St.uw_range (wrap64 (c + 255))
        exact ⟨(St.uw (wrap64 (c + 255))).toNat, (Int.toNat_of_nonneg hur.1).symm, Lib.hid (by omega)⟩
      have hb2 : Bit.str C = ⟨#[49, 49, 48]⟩ ++ Bit.str (Bit.of u 9) := by
        rw [hb, m2]
        have : (St.uw (St.sw (c + St.plus 2))).toNat = u := by
          show (IntKind.u64.wrap (wrap64 (c + 255))).toNat = u
          rw [hu]; rfl
        rw [this]; rfl
      have e0 : (c == 0) = false := by simp; omega
      have a1 : decide (-63 ≤ c) = true := by simp; omega
      have b1 : decide (c ≤ 64) = false := by simp; omega
      have a2 : decide (-255 ≤ c) = true := by simp; omega
      have b2 : decide (c ≤ 256) = true := by simp; omega
      rw [hb2]
      clear hb hbits hk m0 m1 m2 m3 m4 hb2 hcr q0 q1 q2
      subst hc hdd
      go_enter Tryz.func39, Tryz.ntmps39
      go_wp2_with fail
      refine (rBits_any u HU 9 _).mono ?_; rintro e wx ⟨rfl, rfl⟩
      have hsz : ¬ 9223372036854775807 < (⟨#[49, 49, 48]⟩ : ByteArray).size + (Bit.str (Bit.of u (Bit.wd 9))).size := by
        rw [Bit.str_size, Bit.of_length]
        have := Bit.wd_le 9
        have h0 : (⟨#[49, 49, 48]⟩ : ByteArray).size = 3 := rfl
        omega
      go_wp2_with fail
      go_region
      go_wp2_with fail
      refine bodyPost_ret (v := .tuple #[.string (⟨#[49, 49, 48]⟩ ++ Bit.str (Bit.of u 9)), .agg #[.int .i64 (wrap64 (n + 1)), .int .i64 t, .int .i64 (wrap64 (t - x))]]) ?_ rfl ⟨rfl, ?_⟩
      · simp [results, go_sem]
        try rfl
      · exact (((Below.refl _ _).alloc (Nat.le_refl _) _).alloc (by simp) _).grown ⟨rfl, rfl, rfl, Nat.le_refl _, fun _ _ _ => rfl⟩ (row := none) (by simp; omega) (fun r e => by cases e)
    · have hb := hbits 3 hk
      obtain ⟨u, hu, HU⟩ : ∃ u : Nat, IntKind.u64.wrap (wrap64 (c + 2047)) = (u : Int) ∧ Hid (u < 18446744073709551616) := by
        have hur := St.uw_range (wrap64 (c + 2047))
        exact ⟨(St.uw (wrap64 (c + 2047))).toNat, (Int.toNat_of_nonneg hur.1).symm, Lib.hid (by omega)⟩
      have hb2 : Bit.str C = ⟨#[49, 49, 49, 48]⟩ ++ Bit.str (Bit.of u 12) := by
        rw [hb, m3]
        have : (St.uw (St.sw (c + St.plus 3))).toNat = u := by
          show (IntKind.u64.wrap (wrap64 (c + 2047))).toNat = u
          rw [hu]; rfl
        rw [this]; rfl
      have e0 : (c == 0) = false := by simp; omega
      have a1 : decide (-63 ≤ c) = false := by simp; omega
      have a2 : decide (-255 ≤ c) = false := by simp; omega
      have a3 : decide (-2047 ≤ c) = true := by simp; omega
      have b3 : decide (c ≤ 2048) = true := by simp; omega
      rw [hb2]
      clear hb hbits hk m0 m1 m2 m3 m4 hb2 hcr q0 q1 q2
      subst hc hdd
      go_enter Tryz.func39, Tryz.ntmps39
      go_wp2_with fail
      refine (rBits_any u HU 12 _).mono ?_; rintro e wx ⟨rfl, rfl⟩
      have hsz : ¬ 9223372036854775807 < (⟨#[49, 49, 49, 48]⟩ : ByteArray).size + (Bit.str (Bit.of u (Bit.wd 12))).size := by
        rw [Bit.str_size, Bit.of_length]
        have := Bit.wd_le 12
        have h0 : (⟨#[49, 49, 49, 48]⟩ : ByteArray).size = 4 := rfl
        omega
      go_wp2_with fail
      go_region
      go_wp2_with fail
      refine bodyPost_ret (v := .tuple #[.string (⟨#[49, 49, 49, 48]⟩ ++ Bit.str (Bit.of u 12)), .agg #[.int .i64 (wrap64 (n + 1)), .int .i64 t, .int .i64 (wrap64 (t - x))]]) ?_ rfl ⟨rfl, ?_⟩
      · simp [results, go_sem]
        try rfl
      · exact (((Below.refl _ _).alloc (Nat.le_refl _) _).alloc (by simp) _).grown ⟨rfl, rfl, rfl, Nat.le_refl _, fun _ _ _ => rfl⟩ (row := none) (by simp; omega) (fun r e => by cases e)
    · have hb := hbits 3 hk
      obtain ⟨u, hu, HU⟩ : ∃ u : Nat, IntKind.u64.wrap (wrap64 (c + 2047)) = (u : Int) ∧ Hid (u < 18446744073709551616) := by
        have hur := St.uw_range (wrap64 (c + 2047))
        exact ⟨(St.uw (wrap64 (c + 2047))).toNat, (Int.toNat_of_nonneg hur.1).symm, Lib.hid (by omega)⟩
      have hb2 : Bit.str C = ⟨#[49, 49, 49, 48]⟩ ++ Bit.str (Bit.of u 12) := by
        rw [hb, m3]
        have : (St.uw (St.sw (c + St.plus 3))).toNat = u := by
          show (IntKind.u64.wrap (wrap64 (c + 2047))).toNat = u
          rw [hu]; rfl
        rw [this]; rfl
      have e0 : (c == 0) = false := by simp; omega
      have a1 : decide (-63 ≤ c) = true := by simp; omega
      have b1 : decide (c ≤ 64) = false := by simp; omega
      have a2 : decide (-255 ≤ c) = true := by simp; omega
      have b2 : decide (c ≤ 256) = false := by simp; omega
      have a3 : decide (-2047 ≤ c) = true := by simp; omega
      have b3 : decide (c ≤ 2048) = true := by simp; omega
      rw [hb2]
      clear hb hbits hk m0 m1 m2 m3 m4 hb2 hcr q0 q1 q2
      subst hc hdd
      go_enter Tryz.func39, Tryz.ntmps39
      go_wp2_with fail
      refine (rBits_any u HU 12 _).mono ?_; rintro e wx ⟨rfl, rfl⟩
      have hsz : ¬ 9223372036854775807 < (⟨#[49, 49, 49, 48]⟩ : ByteArray).size + (Bit.str (Bit.of u (Bit.wd 12))).size := by
        rw [Bit.str_size, Bit.of_length]
        have := Bit.wd_le 12
        have h0 : (⟨#[49, 49, 49, 48]⟩ : ByteArray).size = 4 := rfl
        omega
      go_wp2_with fail
      go_region
      go_wp2_with fail
      refine bodyPost_ret (v := .tuple #[.string (⟨#[49, 49, 49, 48]⟩ ++ Bit.str (Bit.of u 12)), .agg #[.int .i64 (wrap64 (n + 1)), .int .i64 t, .int .i64 (wrap64 (t - x))]]) ?_ rfl ⟨rfl, ?_⟩
      · simp [results, go_sem]
        try rfl
      · exact (((Below.refl _ _).alloc (Nat.le_refl _) _).alloc (by simp) _).grown ⟨rfl, rfl, rfl, Nat.le_refl _, fun _ _ _ => rfl⟩ (row := none) (by simp; omega) (fun r e => by cases e)
    · have hb := hbits 4 hk
      obtain ⟨u, hu, HU⟩ : ∃ u : Nat, IntKind.u64.wrap (c) = (u : Int) ∧ Hid (u < 18446744073709551616) := by
        have hur := St.uw_range (c)
        exact ⟨(St.uw (c)).toNat, (Int.toNat_of_nonneg hur.1).symm, Lib.hid (by omega)⟩
      have hb2 : Bit.str C = ⟨#[49, 49, 49, 49]⟩ ++ Bit.str (Bit.of u 64) := by
        rw [hb, m4]
        have : (St.uw (St.sw (c + St.plus 4))).toNat = u := by
          show (IntKind.u64.wrap (wrap64 (c + 0))).toNat = u
          rw [hcr, hu]; rfl
        rw [this]; rfl
      have e0 : (c == 0) = false := by simp; omega
      have a1 : decide (-63 ≤ c) = false := by simp; omega
      have a2 : decide (-255 ≤ c) = false := by simp; omega
      have a3 : decide (-2047 ≤ c) = false := by simp; omega
      rw [hb2]
      clear hb hbits hk m0 m1 m2 m3 m4 hb2 hcr q0
      subst hc hdd
      go_enter Tryz.func39, Tryz.ntmps39
      go_wp2_with fail
      refine (rBits_any u HU 64 _).mono ?_; rintro e wx ⟨rfl, rfl⟩
      have hsz : ¬ 9223372036854775807 < (⟨#[49, 49, 49, 49]⟩ : ByteArray).size + (Bit.str (Bit.of u (Bit.wd 64))).size := by
        rw [Bit.str_size, Bit.of_length]
        have := Bit.wd_le 64
        have h0 : (⟨#[49, 49, 49, 49]⟩ : ByteArray).size = 4 := rfl
        omega
      go_wp2_with fail
      go_region
      go_wp2_with fail
      refine bodyPost_ret (v := .tuple #[.string (⟨#[49, 49, 49, 49]⟩ ++ Bit.str (Bit.of u 64)), .agg #[.int .i64 (wrap64 (n + 1)), .int .i64 t, .int .i64 (wrap64 (t - x))]]) ?_ rfl ⟨rfl, ?_⟩
      · simp [results, go_sem]
        try rfl
      · exact (((Below.refl _ _).alloc (Nat.le_refl _) _).alloc (by simp) _).grown ⟨rfl, rfl, rfl, Nat.le_refl _, fun _ _ _ => rfl⟩ (row := none) (by simp; omega) (fun r e => by cases e)
    · have hb := hbits 4 hk
      obtain ⟨u, hu, HU⟩ : ∃ u : Nat, IntKind.u64.wrap (c) = (u : Int) ∧ Hid (u < 18446744073709551616) := by
        have hur := St.uw_range (c)
        exact ⟨(St.uw (c)).toNat, (Int.toNat_of_nonneg hur.1).symm, Lib.hid (by omega)⟩
      have hb2 : Bit.str C = ⟨#[49, 49, 49, 49]⟩ ++ Bit.str (Bit.of u 64) := by
        rw [hb, m4]
        have : (St.uw (St.sw (c + St.plus 4))).toNat = u := by
          show (IntKind.u64.wrap (wrap64 (c + 0))).toNat = u
          rw [hcr, hu]; rfl
        rw [this]; rfl
      have e0 : (c == 0) = false := by simp; omega
      have a1 : decide (-63 ≤ c) = true := by simp; omega
      have b1 : decide (c ≤ 64) = false := by simp; omega
      have a2 : decide (-255 ≤ c) = true := by simp; omega
      have b2 : decide (c ≤ 256) = false := by simp; omega
      have a3 : decide (-2047 ≤ c) = true := by simp; omega
      have b3 : decide (c ≤ 2048) = false := by simp; omega
      rw [hb2]
      clear hb hbits hk m0 m1 m2 m3 m4 hb2 hcr q0
      subst hc hdd
      go_enter Tryz.func39, Tryz.ntmps39
      go_wp2_with fail
      refine (rBits_any u HU 64 _).mono ?_; rintro e wx ⟨rfl, rfl⟩
      have hsz : ¬ 9223372036854775807 < (⟨#[49, 49, 49, 49]⟩ : ByteArray).size + (Bit.str (Bit.of u (Bit.wd 64))).size := by
        rw [Bit.str_size, Bit.of_length]
        have := Bit.wd_le 64
        have h0 : (⟨#[49, 49, 49, 49]⟩ : ByteArray).size = 4 := rfl
        omega
      go_wp2_with fail
      go_region
      go_wp2_with fail
      refine bodyPost_ret (v := .tuple #[.string (⟨#[49, 49, 49, 49]⟩ ++ Bit.str (Bit.of u 64)), .agg #[.int .i64 (wrap64 (n + 1)), .int .i64 t, .int .i64 (wrap64 (t - x))]]) ?_ rfl ⟨rfl, ?_⟩
      · simp [results, go_sem]
        try rfl
      · exact (((Below.refl _ _).alloc (Nat.le_refl _) _).alloc (by simp) _).grown ⟨rfl, rfl, rfl, Nat.le_refl _, fun _ _ _ => rfl⟩ (row := none) (by simp; omega) (fun r e => by cases e)
end Go.Proofs.YtfgcgjogaaofdaaGreatDoor
/-
  What All of package stamp comes to.
-/
namespace Go.Proofs.YtfgcgjogaaofdaaGreatDoor
open Go.RowKit

/-- the state behind the first k times; their bits -/
def St.after (f : Nat → Int) : Nat → St.S
  | 0 => ⟨0, 0, 0⟩
  | k + 1 => (St.after f k).next (f k)
def St.bits (f : Nat → Int) : Nat → List Bool
  | 0 => []
  | k + 1 => St.bits f k ++ (St.after f k).code (f k)
theorem St.S.cost_le (s : St.S) (t : Int) : s.cost t ≤ 68 := by
  unfold St.S.cost
  split
  · omega
  · have h1 : ∀ k, St.marks k ≤ 4 := fun k => by unfold St.marks; split <;> omega
    have h2 : ∀ k, St.size k ≤ 64 := fun k => by unfold St.size; split <;> omega
    have := h1 (St.cls (s.change t)); have := h2 (St.cls (s.change t)); omega
theorem St.bits_length (f : Nat → Int) : ∀ k, (St.bits f k).length ≤ 68 * k
  | 0 => by simp [St.bits]
  | k + 1 => by
    have := St.bits_length f k
    have := (St.after f k).cost_le (f k)
    simp only [St.bits, List.length_append, St.S.code_length]; omega
def StateAt (W : World) (g : Nat) (s : St.S) : Prop := W.heap[g]? = some (.cells #[.int .i64 s.n, .int .i64 s.t, .int .i64 s.d] 102 (0, 0))

theorem StateAt.set {W : World} {g : Nat} {s : St.S} (h : StateAt W g s) (n t d : Int) : StateAt (((W.setCell ⟨g, 0, none⟩ (.int .i64 n)).setCell ⟨g, 1, none⟩ (.int .i64 t)).setCell ⟨g, 2, none⟩ (.int .i64 d)) g ⟨n, t, d⟩ := by
  unfold StateAt at *
  simp [World.setCell, Array.getElem?_modify, h]
set_option maxRecDepth 100000 in
set_option maxHeartbeats 1000000 in
theorem stAll_any (w : World) (hT : ClsOk w) (A : Option Addr) (len cap : Nat) (f : Nat → Int) (hlen : len ≤ 1000) (hA : IntRow w A len .i64 f) :
    Calls Tryz.prog 58 #[.slice A len cap] w fun e w' => e = .returned (.string (Bit.text (St.bits f len))) ∧ Below w.heap.size w w' := by
  have HA := Lib.hid hA; have HT := Lib.hid hT; clear hA hT
  go_enter Tryz.func58, Tryz.ntmps58
  go_wp2_with fail
  refine (NewWriter_any _).mono ?_; rintro e w2 ⟨rfl, hw2⟩
  have hwr : WrAt w2 w.heap.size w.heap.size none 0 [] := by rw [hw2]; exact WrAt.new w _
  have hb2 : Below w.heap.size w w2 := by rw [hw2]; exact (Below.refl _ _).alloc (Nat.le_refl _) _
  have HWr := Lib.hid hwr; have HB2 := Lib.hid hb2; clear hwr hb2 hw2
  go_wp2_with fail
  go_loopw [9] (fun i wr => ∃ (k : Nat) (A2 : Option Addr) (cap2 : Nat), k ≤ len ∧ i = .int .i64 k ∧ WrAt wr w.heap.size w.heap.size A2 cap2 (St.bits f k) ∧ StateAt wr w2.heap.size (St.after f k) ∧ Below w.heap.size w wr) (fun i _ => len - (intOf i).toNat)
  case atStart => exact ⟨0, none, 0, by omega, rfl, HWr.out.later ((Below.refl _ _).alloc (Nat.le_refl _) _), RowIs.one _ _, HB2.out.alloc HB2.out.size _⟩
  case round =>
    obtain ⟨k, A2, cap2, hk, rfl, hw, hs, hb⟩ := hrel
    have HW := Lib.hid hw; have HB := Lib.hid hb; have HS := Lib.hid hs; clear hw hb hs
    have hB := St.bits_length f k
    by_cases hlt : k < len
    · obtain ⟨ad, rfl, c0, wf0⟩ := HA.out.at_ HB.out hlt
      have HTk : Hid (ClsOk wr) := Lib.hid (HT.out.later HB.out)
      have e0 := cell_of_row _ _ 0 _ _ _ HS.out
      have e1 := cell_of_row _ _ 1 _ _ _ HS.out
      have e2 := cell_of_row _ _ 2 _ _ _ HS.out
      simp at e0 e1 e2
      go_wp2_with fail
      refine plain_still_tail 6 (by kernel_rfl) (by kernel_rfl) ?_
      simp only [List.take_succ_cons, List.take_zero, List.drop_succ_cons, List.drop_zero]
      repeat still_step
      refine wpStill_nil ?_
      go_wp2_with fail
      refine (stPut_any w.heap.size w.heap.size A2 cap2 (St.bits f k) (by omega) (St.after f k) (f k) wr.drew (fun k hk j hj => HTk.out k hk j hj) HW.out.drew (by have := HB.out.size; exact this)).mono ?_
      rintro e w3 ⟨rfl, A3, cap3, hw3, hN, hF⟩
      have hgp : w.heap.size < w2.heap.size := HWr.out.lt
      have hgl : w2.heap.size < wr.heap.size := (Array.getElem?_eq_some_iff.1 HS.out).1
      have hs3 : StateAt w3 w2.heap.size (St.after f k) := (hF.undrew.same _ hgl (row_not HW.out HS.out (by decide) (by omega))).trans HS.out
      have hb3 : Below w.heap.size w w3 := HB.out.trans (hF.undrew.below HB.out.size (putSet_base HW.out (Nat.le_refl _)))
      have hnew := hs3.set (St.after f (k + 1)).n (St.after f (k + 1)).t (St.after f (k + 1)).d
      have hbn : Below w.heap.size w _ := hb3.grown (grown_three w3 w2.heap.size 0 1 2 (.int .i64 (St.after f (k + 1)).n) (.int .i64 (St.after f (k + 1)).t) (.int .i64 (St.after f (k + 1)).d)) hb3.size (fun r e => by cases e; omega)
      have hwn : WrAt _ w.heap.size w.heap.size A3 cap3 (St.bits f (k + 1)) := RowAt.keep hw3 ((grown_three w3 w2.heap.size 0 1 2 (.int .i64 (St.after f (k + 1)).n) (.int .i64 (St.after f (k + 1)).t) (.int .i64 (St.after f (k + 1)).d)).block _ hw3.lt (by simp; omega))
        (fun g hg => (grown_three w3 w2.heap.size 0 1 2 (.int .i64 (St.after f (k + 1)).n) (.int .i64 (St.after f (k + 1)).t) (.int .i64 (St.after f (k + 1)).d)).block _ (by subst hg; exact (row_block hw3.own rfl).2.1) (by
          have hne : g ≠ w2.heap.size := by subst hg; exact own_ne hw3.own hs3 (by decide)
          simp; omega))
      have r0 := cell_of_row _ _ 0 _ _ _ hs3
      have r1 := cell_of_row _ _ 1 _ _ _ hs3
      have r2 := cell_of_row _ _ 2 _ _ _ hs3
      have f0 := frozen_of_row _ _ 0 _ _ hs3
      have f1 := frozen_of_row _ _ 1 _ _ hs3
      have f2 := frozen_of_row _ _ 2 _ _ hs3
      simp at r0 r1 r2
      have HN := Lib.hid hnew; have HBN := Lib.hid hbn; have HWN := Lib.hid hwn
      rw [show ((St.after f k).next (f k)).val = .agg #[.int .i64 (St.after f (k + 1)).n, .int .i64 (St.after f (k + 1)).t, .int .i64 (St.after f (k + 1)).d] from rfl]
      have HE : Hid ((⟨(St.after f (k + 1)).n, (St.after f (k + 1)).t, (St.after f (k + 1)).d⟩ : St.S) = St.after f (k + 1)) := Lib.hid rfl
      generalize (St.after f (k + 1)).n = n3 at *
      generalize (St.after f (k + 1)).t = t3 at *
      generalize (St.after f (k + 1)).d = d3 at *
      clear hnew hbn hwn hs3 hb3 hw3 hN hF HW HS
      go_wp2_with fail
      go_roundw
      case rel => exact ⟨k + 1, A3, cap3, by omega, by go_num, HWN.out, by rw [← HE.out]; exact HN.out, HBN.out⟩
      case measure => simp [intOf]; omega
    · obtain rfl : k = len := by omega
      go_wp2_with fail
      refine (Bytes_any _ HW.out).mono ?_; rintro e wx ⟨rfl, rfl⟩
      go_wp2_with fail
      go_ret
      exact ⟨rfl, HB.out⟩
end Go.Proofs.YtfgcgjogaaofdaaGreatDoor
/-
  What Bits and All of the reference come to.
-/
namespace Go.Proofs.YtfgcgjogaaofdaaGreatDoor
open Go.RowKit

def RStateAt (W : World) (g : Nat) (s : St.S) : Prop := W.heap[g]? = some (.cells #[.int .i64 s.n, .int .i64 s.t, .int .i64 s.d] 69 (0, 0))
theorem RStateAt.set {W : World} {g : Nat} {s : St.S} (h : RStateAt W g s) (n t d : Int) : RStateAt (((W.setCell ⟨g, 0, none⟩ (.int .i64 n)).setCell ⟨g, 1, none⟩ (.int .i64 t)).setCell ⟨g, 2, none⟩ (.int .i64 d)) g ⟨n, t, d⟩ := by
  unfold RStateAt at *
  simp [World.setCell, Array.getElem?_modify, h]

set_option maxRecDepth 100000 in
set_option maxHeartbeats 1000000 in
theorem rStBits_any (w : World) (A : Option Addr) (len cap : Nat) (f : Nat → Int) (hlen : len ≤ 200) (hA : IntRow w A len .i64 f) :
    Calls Tryz.prog 27 #[.slice A len cap] w fun e w' => e = .returned (.string (Bit.str (St.bits f len))) ∧ Below w.heap.size w w' := by
  have HA := Lib.hid hA; clear hA
  go_enter Tryz.func27, Tryz.ntmps27
  go_wp2_with fail
  go_loopw [3, 5] (fun o i wr => ∃ (k : Nat), k ≤ len ∧ i = .int .i64 k ∧ o = .string (Bit.str (St.bits f k)) ∧ RStateAt wr w.heap.size (St.after f k) ∧ Below w.heap.size w wr) (fun _ i _ => len - (intOf i).toNat)
  case atStart => exact ⟨0, by omega, rfl, rfl, RowIs.one _ _, (Below.refl _ _).alloc (Nat.le_refl _) _⟩
  case round =>
    obtain ⟨k, hk, rfl, rfl, hs, hb⟩ := hrel
    have HB := Lib.hid hb; have HS := Lib.hid hs; clear hb hs
    have hB := St.bits_length f k
    by_cases hlt : k < len
    · obtain ⟨ad, rfl, c0, wf0⟩ := HA.out.at_ HB.out hlt
      have e0 := cell_of_row _ _ 0 _ _ _ HS.out
      have e1 := cell_of_row _ _ 1 _ _ _ HS.out
      have e2 := cell_of_row _ _ 2 _ _ _ HS.out
      simp at e0 e1 e2
      go_wp2_with fail
      have hS : wr.drew.cell? ⟨w.heap.size, 0, none⟩ = some (.int .i64 (St.after f k).n) ∧ wr.drew.cell? ⟨w.heap.size, 1, none⟩ = some (.int .i64 (St.after f k).t) ∧ wr.drew.cell? ⟨w.heap.size, 2, none⟩ = some (.int .i64 (St.after f k).d) ∧ wr.drew.cell? (ad.add k) = some (.int .i64 (f k)) := ⟨e0, e1, e2, c0⟩
      refine plain_held (fun U => U.cell? ⟨w.heap.size, 0, none⟩ = some (.int .i64 (St.after f k).n) ∧ U.cell? ⟨w.heap.size, 1, none⟩ = some (.int .i64 (St.after f k).t) ∧ U.cell? ⟨w.heap.size, 2, none⟩ = some (.int .i64 (St.after f k).d) ∧ U.cell? (ad.add k) = some (.int .i64 (f k))) (by kernel_rfl) ?_
      refine wpAnyH_pick (by kernel_rfl) Only.panic (w := wr.drew) hS [0, 1, 2, 3, 4] 7 _ _ (by kernel_rfl) ?_
      refine PickOk.value (v := (St.after f k).val) rfl rfl (by kernel_rfl) (fun U hU => (by obtain ⟨h0, h1, h2, h3⟩ := hU; unfold St.S.val; go_simp)) ?_
      refine PickOk.value (v := .slice (some ad) len cap) rfl rfl (by kernel_rfl) (fun U hU => (by go_simp)) ?_
      refine PickOk.value (v := .int .i64 k) rfl rfl (by kernel_rfl) (fun U hU => (by go_simp)) ?_
      refine PickOk.value (v := .pointer (some (ad.add k))) rfl rfl (by kernel_rfl) (fun U hU => (by go_simp)) ?_
      refine PickOk.value (v := .int .i64 (f k)) rfl rfl (by kernel_rfl) (fun U hU => (by obtain ⟨h0, h1, h2, h3⟩ := hU; go_simp)) ?_
      simp only [PickOk, Act.put, List.setIfInBounds_toArray]
      refine wpAnyH_two (i := 5) (j := 9) (by kernel_rfl) rfl rfl (by kernel_rfl) (by kernel_rfl) ?_ ?_
      · intro K hK
        unfold Oper.wp
        go_simp
        refine (rPut_any (St.after f k) (f k) wr.drew).mono ?_; rintro e w3 ⟨rfl, hb3⟩
        have S3 : w3.cell? ⟨w.heap.size, 0, none⟩ = some (.int .i64 (St.after f k).n) ∧ w3.cell? ⟨w.heap.size, 1, none⟩ = some (.int .i64 (St.after f k).t) ∧ w3.cell? ⟨w.heap.size, 2, none⟩ = some (.int .i64 (St.after f k).d) ∧ w3.cell? (ad.add k) = some (.int .i64 (f k)) :=
          ⟨(hb3.cell (block_lt_of_cell hS.1)).trans hS.1, (hb3.cell (block_lt_of_cell hS.2.1)).trans hS.2.1, (hb3.cell (block_lt_of_cell hS.2.2.1)).trans hS.2.2.1, (hb3.cell (block_lt_of_cell hS.2.2.2)).trans hS.2.2.2⟩
        refine hK _ _ S3 (fun _ => ?_)
        clear hK K
        refine wpAnyH_pick (by kernel_rfl) Only.panic (w := w3) S3 [6, 7, 8] 3 _ _ (by kernel_rfl) ?_
        refine PickOk.value (v := .tuple #[.string (Bit.str ((St.after f k).code (f k))), ((St.after f k).next (f k)).val]) rfl rfl (by kernel_rfl) (fun U hU => (by go_simp)) ?_
        refine PickOk.value (v := .string (Bit.str ((St.after f k).code (f k)))) rfl rfl (by kernel_rfl) (fun U hU => (by go_simp)) ?_
        refine PickOk.value (v := ((St.after f k).next (f k)).val) rfl rfl (by kernel_rfl) (fun U hU => (by go_simp)) ?_
        simp only [PickOk, Act.put, List.setIfInBounds_toArray]
        refine wpAnyH_one (i := 9) (by kernel_rfl) rfl (by kernel_rfl) ?_
        intro K hK
        unfold Oper.wp
        go_simp
        have S4 : ∀ o, (w3.alloc o).cell? ⟨w.heap.size, 0, none⟩ = some (.int .i64 (St.after f k).n) ∧ (w3.alloc o).cell? ⟨w.heap.size, 1, none⟩ = some (.int .i64 (St.after f k).t) ∧ (w3.alloc o).cell? ⟨w.heap.size, 2, none⟩ = some (.int .i64 (St.after f k).d) ∧ (w3.alloc o).cell? (ad.add k) = some (.int .i64 (f k)) := fun o =>
          ⟨(World.cell?_alloc_lt w3 o _ (block_lt_of_cell S3.1)).trans S3.1, (World.cell?_alloc_lt w3 o _ (block_lt_of_cell S3.2.1)).trans S3.2.1, (World.cell?_alloc_lt w3 o _ (block_lt_of_cell S3.2.2.1)).trans S3.2.2.1, (World.cell?_alloc_lt w3 o _ (block_lt_of_cell S3.2.2.2)).trans S3.2.2.2⟩
        refine hK _ _ (S4 _) (fun _ => ?_)
        clear hK K
        refine wpAnyH_pick (by kernel_rfl) Only.panic (S4 _) [10] 1 _ _ (by kernel_rfl) ?_
        refine PickOk.value (v := .string (Bit.str ((St.after f k).code (f k)))) rfl rfl (by kernel_rfl) (fun U hU => (by go_simp)) ?_
        simp only [PickOk, Act.put, List.setIfInBounds_toArray]
        refine wpAnyH_one (i := 11) (by kernel_rfl) rfl (by kernel_rfl) ?_
        intro K hK
        rw [show ((St.after f k).next (f k)).val = .agg #[.int .i64 (St.after f (k + 1)).n, .int .i64 (St.after f (k + 1)).t, .int .i64 (St.after f (k + 1)).d] from rfl] at *
        unfold Oper.wp
        go_simp
        refine hK _ _ (S4 _) (fun _ => ?_)
        clear hK K
        refine wpAnyH_done (by kernel_rfl) ?_ _
        refine Only.next ?_
        have hb4 : Below w.heap.size w w3 := HB.out.trans ((show Below wr.heap.size wr w3 from ⟨hb3.os, hb3.tape, hb3.output, hb3.size, hb3.block⟩).mono HB.out.size)
        have HQ : Hid (RStateAt (w3.alloc (.cells #[.int .i64 (St.after f (k + 1)).n, .int .i64 (St.after f (k + 1)).t, .int .i64 (St.after f (k + 1)).d] 69)) w3.heap.size (St.after f (k + 1))) := Lib.hid (RowIs.one _ _)
        have HB5 : Hid (Below w.heap.size w (w3.alloc (.cells #[.int .i64 (St.after f (k + 1)).n, .int .i64 (St.after f (k + 1)).t, .int .i64 (St.after f (k + 1)).d] 69))) := Lib.hid (hb4.alloc hb4.size _)
        have hgl : w.heap.size < wr.heap.size := (Array.getElem?_eq_some_iff.1 HS.out).1
        have hs3 : RStateAt w3 w.heap.size (St.after f k) := (hb3.block _ hgl).trans HS.out
        have HS5 : Hid (RStateAt (w3.alloc (.cells #[.int .i64 (St.after f (k + 1)).n, .int .i64 (St.after f (k + 1)).t, .int .i64 (St.after f (k + 1)).d] 69)) w.heap.size (St.after f k)) := Lib.hid (((Below.refl w3.heap.size w3).alloc (Nat.le_refl _) _).block _ (Array.getElem?_eq_some_iff.1 hs3).1 |>.trans hs3)
        clear hb3 hb4 hs3
        generalize w3.alloc (.cells #[.int .i64 (St.after f (k + 1)).n, .int .i64 (St.after f (k + 1)).t, .int .i64 (St.after f (k + 1)).d] 69) = W5 at *
        generalize w3.heap.size = gq at *
        have q0 := cell_of_row _ _ 0 _ _ _ HQ.out
        have q1 := cell_of_row _ _ 1 _ _ _ HQ.out
        have q2 := cell_of_row _ _ 2 _ _ _ HQ.out
        have r0 := cell_of_row _ _ 0 _ _ _ HS5.out
        have r1 := cell_of_row _ _ 1 _ _ _ HS5.out
        have r2 := cell_of_row _ _ 2 _ _ _ HS5.out
        have z0 := frozen_of_row _ _ 0 _ _ HS5.out
        have z1 := frozen_of_row _ _ 1 _ _ HS5.out
        have z2 := frozen_of_row _ _ 2 _ _ HS5.out
        simp at q0 q1 q2 r0 r1 r2
        have hcat : Bit.str (St.bits f k) ++ Bit.str ((St.after f k).code (f k)) = Bit.str (St.bits f (k + 1)) := Bit.str_append _ _
        have hsz : ¬ 9223372036854775807 < (Bit.str (St.bits f k)).size + (Bit.str ((St.after f k).code (f k))).size := by
          rw [Bit.str_size, Bit.str_size, St.S.code_length]; have := (St.after f k).cost_le (f k); omega
        have HE : Hid (RStateAt (((W5.setCell ⟨w.heap.size, 0, none⟩ (.int .i64 (St.after f (k + 1)).n)).setCell ⟨w.heap.size, 1, none⟩ (.int .i64 (St.after f (k + 1)).t)).setCell ⟨w.heap.size, 2, none⟩ (.int .i64 (St.after f (k + 1)).d)) w.heap.size (St.after f (k + 1))) := Lib.hid (HS5.out.set _ _ _)
        have HBN : Hid (Below w.heap.size w (((W5.setCell ⟨w.heap.size, 0, none⟩ (.int .i64 (St.after f (k + 1)).n)).setCell ⟨w.heap.size, 1, none⟩ (.int .i64 (St.after f (k + 1)).t)).setCell ⟨w.heap.size, 2, none⟩ (.int .i64 (St.after f (k + 1)).d))) :=
          Lib.hid (HB5.out.grown (grown_three W5 w.heap.size 0 1 2 _ _ _) HB5.out.size (fun r e => by cases e; omega))
        clear hS S3 S4 e0 e1 e2 c0
        go_wp2_with fail
        go_roundw
        case rel => exact ⟨k + 1, by omega, by go_num, rfl, HE.out, HBN.out⟩
        case measure => simp [intOf]; omega
      · intro K hK
        unfold Oper.wp
        go_simp
        have S1 : ∀ o, (wr.drew.alloc o).cell? ⟨w.heap.size, 0, none⟩ = some (.int .i64 (St.after f k).n) ∧ (wr.drew.alloc o).cell? ⟨w.heap.size, 1, none⟩ = some (.int .i64 (St.after f k).t) ∧ (wr.drew.alloc o).cell? ⟨w.heap.size, 2, none⟩ = some (.int .i64 (St.after f k).d) ∧ (wr.drew.alloc o).cell? (ad.add k) = some (.int .i64 (f k)) := fun o =>
          ⟨(World.cell?_alloc_lt wr.drew o _ (block_lt_of_cell hS.1)).trans hS.1, (World.cell?_alloc_lt wr.drew o _ (block_lt_of_cell hS.2.1)).trans hS.2.1, (World.cell?_alloc_lt wr.drew o _ (block_lt_of_cell hS.2.2.1)).trans hS.2.2.1, (World.cell?_alloc_lt wr.drew o _ (block_lt_of_cell hS.2.2.2)).trans hS.2.2.2⟩
        refine hK _ _ (S1 _) (fun _ => ?_)
        clear hK K
        refine wpAnyH_one (i := 5) (by kernel_rfl) rfl (by kernel_rfl) ?_
        intro K hK
        unfold Oper.wp
        go_simp
        refine (rPut_any (St.after f k) (f k) _).mono ?_; rintro e w3 ⟨rfl, hb3⟩
        have S2 := S1 (.cells #[.int .i64 0, .int .i64 0, .int .i64 0] 69)
        have S3 : w3.cell? ⟨w.heap.size, 0, none⟩ = some (.int .i64 (St.after f k).n) ∧ w3.cell? ⟨w.heap.size, 1, none⟩ = some (.int .i64 (St.after f k).t) ∧ w3.cell? ⟨w.heap.size, 2, none⟩ = some (.int .i64 (St.after f k).d) ∧ w3.cell? (ad.add k) = some (.int .i64 (f k)) :=
          ⟨(hb3.cell (block_lt_of_cell S2.1)).trans S2.1, (hb3.cell (block_lt_of_cell S2.2.1)).trans S2.2.1, (hb3.cell (block_lt_of_cell S2.2.2.1)).trans S2.2.2.1, (hb3.cell (block_lt_of_cell S2.2.2.2)).trans S2.2.2.2⟩
        have hq0 : RStateAt w3 wr.heap.size ⟨0, 0, 0⟩ := (hb3.block _ (by simp)).trans (RowIs.one wr.drew _)
        have hbw : Below wr.heap.size wr w3 := (show Below wr.heap.size wr (wr.drew.alloc _) from ⟨rfl, rfl, rfl, by simp, fun j hj => heap_alloc_old wr.drew _ hj⟩).trans (hb3.mono (by simp))
        refine hK _ _ S3 (fun _ => ?_)
        clear hK K S1 S2 hb3
        refine wpAnyH_pick (by kernel_rfl) Only.panic (w := w3) S3 [6, 7, 8, 10] 1 _ _ (by kernel_rfl) ?_
        refine PickOk.value (v := .tuple #[.string (Bit.str ((St.after f k).code (f k))), ((St.after f k).next (f k)).val]) rfl rfl (by kernel_rfl) (fun U hU => (by go_simp)) ?_
        refine PickOk.value (v := .string (Bit.str ((St.after f k).code (f k)))) rfl rfl (by kernel_rfl) (fun U hU => (by go_simp)) ?_
        refine PickOk.value (v := ((St.after f k).next (f k)).val) rfl rfl (by kernel_rfl) (fun U hU => (by go_simp)) ?_
        refine PickOk.value (v := .string (Bit.str ((St.after f k).code (f k)))) rfl rfl (by kernel_rfl) (fun U hU => (by go_simp)) ?_
        simp only [PickOk, Act.put, List.setIfInBounds_toArray]
        refine wpAnyH_one (i := 11) (by kernel_rfl) rfl (by kernel_rfl) ?_
        intro K hK
        rw [show ((St.after f k).next (f k)).val = .agg #[.int .i64 (St.after f (k + 1)).n, .int .i64 (St.after f (k + 1)).t, .int .i64 (St.after f (k + 1)).d] from rfl] at *
        have y0 := cell_of_row _ _ 0 _ _ _ hq0
        have y1 := cell_of_row _ _ 1 _ _ _ hq0
        have y2 := cell_of_row _ _ 2 _ _ _ hq0
        have x0 := frozen_of_row _ _ 0 _ _ hq0
        have x1 := frozen_of_row _ _ 1 _ _ hq0
        have x2 := frozen_of_row _ _ 2 _ _ hq0
        simp at y0 y1 y2
        have hgl : w.heap.size < wr.heap.size := (Array.getElem?_eq_some_iff.1 HS.out).1
        have hal : (ad.add k).block < wr.heap.size := block_lt_of_cell c0
        have hb5 : Below wr.heap.size w3 (((w3.setCell ⟨wr.heap.size, 0, none⟩ (.int .i64 (St.after f (k + 1)).n)).setCell ⟨wr.heap.size, 1, none⟩ (.int .i64 (St.after f (k + 1)).t)).setCell ⟨wr.heap.size, 2, none⟩ (.int .i64 (St.after f (k + 1)).d)) := (Below.refl _ _).grown (grown_three w3 wr.heap.size 0 1 2 _ _ _) hbw.size (fun r e => by cases e; omega)
        have S4 : (((w3.setCell ⟨wr.heap.size, 0, none⟩ (.int .i64 (St.after f (k + 1)).n)).setCell ⟨wr.heap.size, 1, none⟩ (.int .i64 (St.after f (k + 1)).t)).setCell ⟨wr.heap.size, 2, none⟩ (.int .i64 (St.after f (k + 1)).d)).cell? ⟨w.heap.size, 0, none⟩ = some (.int .i64 (St.after f k).n) ∧ (((w3.setCell ⟨wr.heap.size, 0, none⟩ (.int .i64 (St.after f (k + 1)).n)).setCell ⟨wr.heap.size, 1, none⟩ (.int .i64 (St.after f (k + 1)).t)).setCell ⟨wr.heap.size, 2, none⟩ (.int .i64 (St.after f (k + 1)).d)).cell? ⟨w.heap.size, 1, none⟩ = some (.int .i64 (St.after f k).t) ∧ (((w3.setCell ⟨wr.heap.size, 0, none⟩ (.int .i64 (St.after f (k + 1)).n)).setCell ⟨wr.heap.size, 1, none⟩ (.int .i64 (St.after f (k + 1)).t)).setCell ⟨wr.heap.size, 2, none⟩ (.int .i64 (St.after f (k + 1)).d)).cell? ⟨w.heap.size, 2, none⟩ = some (.int .i64 (St.after f k).d) ∧ (((w3.setCell ⟨wr.heap.size, 0, none⟩ (.int .i64 (St.after f (k + 1)).n)).setCell ⟨wr.heap.size, 1, none⟩ (.int .i64 (St.after f (k + 1)).t)).setCell ⟨wr.heap.size, 2, none⟩ (.int .i64 (St.after f (k + 1)).d)).cell? (ad.add k) = some (.int .i64 (f k)) :=
          ⟨(hb5.cell hgl).trans S3.1, (hb5.cell hgl).trans S3.2.1, (hb5.cell hgl).trans S3.2.2.1, (hb5.cell hal).trans S3.2.2.2⟩
        unfold Oper.wp
        go_simp
        refine hK _ _ S4 (fun _ => ?_)
        clear hK K
        refine wpAnyH_done (by kernel_rfl) ?_ _
        refine Only.next ?_
        have HQ : Hid (RStateAt (((w3.setCell ⟨wr.heap.size, 0, none⟩ (.int .i64 (St.after f (k + 1)).n)).setCell ⟨wr.heap.size, 1, none⟩ (.int .i64 (St.after f (k + 1)).t)).setCell ⟨wr.heap.size, 2, none⟩ (.int .i64 (St.after f (k + 1)).d)) wr.heap.size (St.after f (k + 1))) := Lib.hid (hq0.set _ _ _)
        have HB5 : Hid (Below w.heap.size w (((w3.setCell ⟨wr.heap.size, 0, none⟩ (.int .i64 (St.after f (k + 1)).n)).setCell ⟨wr.heap.size, 1, none⟩ (.int .i64 (St.after f (k + 1)).t)).setCell ⟨wr.heap.size, 2, none⟩ (.int .i64 (St.after f (k + 1)).d))) := Lib.hid ((HB.out.trans (hbw.mono HB.out.size)).trans (hb5.mono HB.out.size))
        have HS5 : Hid (RStateAt (((w3.setCell ⟨wr.heap.size, 0, none⟩ (.int .i64 (St.after f (k + 1)).n)).setCell ⟨wr.heap.size, 1, none⟩ (.int .i64 (St.after f (k + 1)).t)).setCell ⟨wr.heap.size, 2, none⟩ (.int .i64 (St.after f (k + 1)).d)) w.heap.size (St.after f k)) := Lib.hid ((hb5.block _ hgl).trans ((hbw.block _ hgl).trans HS.out))
        clear hq0 hbw hb5 y0 y1 y2 x0 x1 x2 hal
        generalize (((w3.setCell ⟨wr.heap.size, 0, none⟩ (.int .i64 (St.after f (k + 1)).n)).setCell ⟨wr.heap.size, 1, none⟩ (.int .i64 (St.after f (k + 1)).t)).setCell ⟨wr.heap.size, 2, none⟩ (.int .i64 (St.after f (k + 1)).d)) = W5 at *
        generalize wr.heap.size = gq at *
        have q0 := cell_of_row _ _ 0 _ _ _ HQ.out
        have q1 := cell_of_row _ _ 1 _ _ _ HQ.out
        have q2 := cell_of_row _ _ 2 _ _ _ HQ.out
        have r0 := cell_of_row _ _ 0 _ _ _ HS5.out
        have r1 := cell_of_row _ _ 1 _ _ _ HS5.out
        have r2 := cell_of_row _ _ 2 _ _ _ HS5.out
        have z0 := frozen_of_row _ _ 0 _ _ HS5.out
        have z1 := frozen_of_row _ _ 1 _ _ HS5.out
        have z2 := frozen_of_row _ _ 2 _ _ HS5.out
        simp at q0 q1 q2 r0 r1 r2
        have hcat : Bit.str (St.bits f k) ++ Bit.str ((St.after f k).code (f k)) = Bit.str (St.bits f (k + 1)) := Bit.str_append _ _
        have hsz : ¬ 9223372036854775807 < (Bit.str (St.bits f k)).size + (Bit.str ((St.after f k).code (f k))).size := by
          rw [Bit.str_size, Bit.str_size, St.S.code_length]; have := (St.after f k).cost_le (f k); omega
        have HE : Hid (RStateAt (((W5.setCell ⟨w.heap.size, 0, none⟩ (.int .i64 (St.after f (k + 1)).n)).setCell ⟨w.heap.size, 1, none⟩ (.int .i64 (St.after f (k + 1)).t)).setCell ⟨w.heap.size, 2, none⟩ (.int .i64 (St.after f (k + 1)).d)) w.heap.size (St.after f (k + 1))) := Lib.hid (HS5.out.set _ _ _)
        have HBN : Hid (Below w.heap.size w (((W5.setCell ⟨w.heap.size, 0, none⟩ (.int .i64 (St.after f (k + 1)).n)).setCell ⟨w.heap.size, 1, none⟩ (.int .i64 (St.after f (k + 1)).t)).setCell ⟨w.heap.size, 2, none⟩ (.int .i64 (St.after f (k + 1)).d))) :=
          Lib.hid (HB5.out.grown (grown_three W5 w.heap.size 0 1 2 _ _ _) HB5.out.size (fun r e => by cases e; omega))
        clear hS S3 S4 e0 e1 e2 c0
        go_wp2_with fail
        go_roundw
        case rel => exact ⟨k + 1, by omega, by go_num, rfl, HE.out, HBN.out⟩
        case measure => simp [intOf]; omega
    · obtain rfl : k = len := by omega
      go_wp2_with fail
      go_ret
      exact ⟨rfl, HB.out⟩
end Go.Proofs.YtfgcgjogaaofdaaGreatDoor
/-
  What Same of the reference comes to.
-/
namespace Go.Proofs.YtfgcgjogaaofdaaGreatDoor
open Go.RowKit

end Go.Proofs.YtfgcgjogaaofdaaGreatDoor
/-
  What of of the laws, at of the reference come to.
-/
namespace Go.Proofs.YtfgcgjogaaofdaaGreatDoor
open Go.RowKit

end Go.Proofs.YtfgcgjogaaofdaaGreatDoor
/-
  What All of the reference comes to.
-/
namespace Go.Proofs.YtfgcgjogaaofdaaGreatDoor
open Go.RowKit

set_option maxRecDepth 100000 in
theorem rStAll_any (w : World) (A : Option Addr) (len cap : Nat) (f : Nat → Int) (hlen : len ≤ 200) (hA : IntRow w A len .i64 f) :
    Calls Tryz.prog 19 #[.slice A len cap] w fun e w' => e = .returned (.string (Bit.text (St.bits f len))) ∧ Below w.heap.size w w' := by
  have hc := rStBits_any w A len cap f (by omega) hA
  have hB := St.bits_length f len
  have HC := Lib.hid hc; clear hc hA
  go_enter Tryz.func19, Tryz.ntmps19
  go_wp2_with fail
  refine HC.out.mono ?_; rintro e w1 ⟨rfl, hb1⟩
  have HB1 := Lib.hid hb1; clear hb1
  go_wp2_with fail
  refine (rBytes_any _ (by omega) _).mono ?_; rintro e w2 ⟨rfl, hb2⟩
  have HB2 := Lib.hid (HB1.out.trans (hb2.mono HB1.out.size)); clear hb2
  go_wp2_with fail
  go_ret
  exact ⟨rfl, HB2.out⟩
end Go.Proofs.YtfgcgjogaaofdaaGreatDoor
/-
  Times out of bits: the mathematics.
-/
namespace Go.Proofs.YtfgcgjogaaofdaaGreatDoor
open Go.RowKit
namespace St

/-- the class whose mark comes first -/
def markOf : List Bool → Option Nat
  | false :: _ => some 0
  | true :: false :: _ => some 1
  | true :: true :: false :: _ => some 2
  | true :: true :: true :: false :: _ => some 3
  | true :: true :: true :: true :: _ => some 4
  | _ => none
def mkb (k : Nat) : List Bool := Bit.of (mark k) (marks k)
theorem mk0 : mkb 0 = [false] := by decide
theorem mk1 : mkb 1 = [true, false] := by decide
theorem mk2 : mkb 2 = [true, true, false] := by decide
theorem mk3 : mkb 3 = [true, true, true, false] := by decide
theorem mk4 : mkb 4 = [true, true, true, true] := by decide
theorem mk_length (k : Nat) : (mkb k).length = marks k := Bit.of_length _ _
theorem five {k : Nat} (h : k < 5) : k = 0 ∨ k = 1 ∨ k = 2 ∨ k = 3 ∨ k = 4 := by omega
theorem markOf_mk (k : Nat) (h : k < 5) (R : List Bool) : markOf (mkb k ++ R) = some k := by
  rcases five h with rfl | rfl | rfl | rfl | rfl
  · rw [mk0]; rfl
  · rw [mk1]; rfl
  · rw [mk2]; rfl
  · rw [mk3]; rfl
  · rw [mk4]; rfl
theorem markOf_some {L : List Bool} {i : Nat} (h : markOf L = some i) : i < 5 ∧ L = mkb i ++ L.drop (marks i) := by
  unfold markOf at h
  split at h <;> simp at h
  all_goals subst h
  all_goals refine ⟨by omega, ?_⟩
  · rw [mk0]; rfl
  · rw [mk1]; rfl
  · rw [mk2]; rfl
  · rw [mk3]; rfl
  · rw [mk4]; rfl
theorem run_end (k : Nat) (h : k < 4) : markOf (List.replicate k true) = none := by
  obtain rfl | rfl | rfl | rfl : k = 0 ∨ k = 1 ∨ k = 2 ∨ k = 3 := by omega
  all_goals rfl
theorem run_false (k : Nat) (h : k < 4) (R : List Bool) : markOf (List.replicate k true ++ false :: R) = some k := by
  obtain rfl | rfl | rfl | rfl : k = 0 ∨ k = 1 ∨ k = 2 ∨ k = 3 := by omega
  all_goals rfl
theorem run_four (R : List Bool) : markOf (List.replicate 4 true ++ R) = some 4 := rfl
theorem run_next (k : Nat) (R : List Bool) : List.replicate k true ++ true :: R = List.replicate (k + 1) true ++ R := by
  rw [List.replicate_succ', List.append_assoc]; rfl

theorem sw_sw (x : Int) : sw (sw x) = sw x := wrap64_wrap64 x
theorem sw_in {x : Int} (h : -9223372036854775808 ≤ x ∧ x < 9223372036854775808) : sw x = x := by unfold sw wrap64; omega
theorem sw_val (x : Int) : ∃ m : Int, sw x = x - 18446744073709551616 * m := by
  unfold sw wrap64
  exact ⟨(x + 9223372036854775808) / 18446744073709551616, by omega⟩
theorem uw_val (x : Int) : ∃ m : Int, uw x = x - 18446744073709551616 * m := by
  refine ⟨x / 18446744073709551616, ?_⟩
  unfold uw; rw [IntKind.wrap_u64]; omega
/-- of two numbers that are as far, one way round -/
theorem sw_same {x y m : Int} (h : x = y + 18446744073709551616 * m) : sw x = sw y := by
  unfold sw wrap64; omega
theorem uw_same {x y m : Int} (h : x = y + 18446744073709551616 * m) : uw x = uw y := by
  unfold uw; rw [IntKind.wrap_u64, IntKind.wrap_u64]; omega
/-- the time that is a change behind -/
theorem back_change (s : S) (c : Int) (hc : -9223372036854775808 ≤ c ∧ c < 9223372036854775808) : s.change (sw (sw (s.t + s.d) + c)) = c := by
  unfold S.change
  obtain ⟨m1, h1⟩ := sw_val (s.t + s.d)
  obtain ⟨m2, h2⟩ := sw_val (sw (s.t + s.d) + c)
  obtain ⟨m3, h3⟩ := sw_val (sw (sw (s.t + s.d) + c) - s.t)
  have e : sw (sw (sw (s.t + s.d) + c) - s.t) - s.d = c + 18446744073709551616 * (- m1 - m2 - m3) := by omega
  rw [sw_same e, sw_in hc]
theorem change_back (s : S) (t : Int) (ht : -9223372036854775808 ≤ t ∧ t < 9223372036854775808) : sw (sw (s.t + s.d) + s.change t) = t := by
  unfold S.change
  obtain ⟨m1, h1⟩ := sw_val (s.t + s.d)
  obtain ⟨m2, h2⟩ := sw_val (t - s.t)
  obtain ⟨m3, h3⟩ := sw_val (sw (t - s.t) - s.d)
  have e : sw (s.t + s.d) + sw (sw (t - s.t) - s.d) = t + 18446744073709551616 * (- m1 - m2 - m3) := by omega
  rw [sw_same e, sw_in ht]
theorem change_range (s : S) (t : Int) : -9223372036854775808 ≤ s.change t ∧ s.change t < 9223372036854775808 := sw_range _

/-- what the number behind a mark tells -/
def told (i v : Nat) : Int := sw (sw v - plus i)
theorem told_range (i v : Nat) : -9223372036854775808 ≤ told i v ∧ told i v < 9223372036854775808 := sw_range _
theorem size_le (i : Nat) : size i ≤ 64 := by unfold size; split <;> omega
theorem marks_le (i : Nat) : marks i ≤ 4 := by unfold marks; split <;> omega
theorem two_size (i : Nat) : 2 ^ size i ≤ 18446744073709551616 := by
  have h := Bit.two_pow_le (size_le i)
  have e : (2 : Nat) ^ 64 = 18446744073709551616 := by decide
  omega
/-- the number behind the mark of a class, of what it tells -/
theorem told_code (i v : Nat) (hv : v < 2 ^ size i) : (uw (sw (told i v + plus i))).toNat = v := by
  have h64 := two_size i
  obtain ⟨m1, h1⟩ := sw_val (v : Int)
  obtain ⟨m2, h2⟩ := sw_val (sw (v : Int) - plus i)
  obtain ⟨m3, h3⟩ := sw_val (told i v + plus i)
  have e : sw (told i v + plus i) = (v : Int) + 18446744073709551616 * (- m1 - m2 - m3) := by unfold told at *; omega
  rw [uw_same e]
  have : uw (v : Int) = v := by unfold uw; rw [IntKind.wrap_u64]; omega
  rw [this]; rfl
theorem code_lt (c : Int) (hc : -9223372036854775808 ≤ c ∧ c < 9223372036854775808) : (uw (sw (c + plus (cls c)))).toNat < 2 ^ size (cls c) ∧ told (cls c) (uw (sw (c + plus (cls c)))).toNat = c := by
  have hr := uw_range (sw (c + plus (cls c)))
  have key : ((uw (sw (c + plus (cls c)))).toNat : Int) = uw (sw (c + plus (cls c))) := by omega
  constructor
  · rcases cls_cases c with ⟨q, hk⟩ | ⟨q0, q1, q2, hk⟩ | ⟨q0, q1, q2, hk⟩ | ⟨q0, q1, q2, hk⟩ | ⟨q0, hk⟩
    · rw [hk]
      have e : uw (sw (c + plus 0)) = 0 := by
        show uw (sw (c + 0)) = _
        rw [sw_in (by omega)]; unfold uw; rw [IntKind.wrap_u64]; omega
      show _ < 1
      omega
    · rw [hk] at *
      have e : uw (sw (c + plus 1)) = c + 63 := by
        show uw (sw (c + 63)) = _
        rw [sw_in (by omega)]; unfold uw; rw [IntKind.wrap_u64]; omega
      show _ < 128
      omega
    · rw [hk] at *
      have e : uw (sw (c + plus 2)) = c + 255 := by
        show uw (sw (c + 255)) = _
        rw [sw_in (by omega)]; unfold uw; rw [IntKind.wrap_u64]; omega
      show _ < 512
      omega
    · rw [hk] at *
      have e : uw (sw (c + plus 3)) = c + 2047 := by
        show uw (sw (c + 2047)) = _
        rw [sw_in (by omega)]; unfold uw; rw [IntKind.wrap_u64]; omega
      show _ < 4096
      omega
    · rw [hk] at hr ⊢
      show _ < 18446744073709551616
      omega
  · unfold told
    rw [key]
    obtain ⟨m1, h1⟩ := sw_val (c + plus (cls c))
    obtain ⟨m2, h2⟩ := uw_val (sw (c + plus (cls c)))
    obtain ⟨m3, h3⟩ := sw_val (uw (sw (c + plus (cls c))))
    have e : sw (uw (sw (c + plus (cls c)))) - plus (cls c) = c + 18446744073709551616 * (- m1 - m2 - m3) := by omega
    rw [sw_same e, sw_in hc]

/-- the time that bits begin with, behind a state -/
def S.got (s : S) (L : List Bool) : Option Int :=
  if s.n = 0 then (if L.length < 64 then none else some (sw (Bit.val (L.take 64))))
  else match markOf L with
    | none => none
    | some i => if L.length < marks i + size i then none else
      if cls (told i (Bit.val ((L.drop (marks i)).take (size i)))) = i then some (sw (sw (s.t + s.d) + told i (Bit.val ((L.drop (marks i)).take (size i))))) else none
theorem uw_sw (v : Nat) (h : v < 18446744073709551616) : (uw (sw (v : Int))).toNat = v := by
  obtain ⟨m1, h1⟩ := sw_val (v : Int)
  have e : sw (v : Int) = (v : Int) + 18446744073709551616 * (- m1) := by omega
  rw [uw_same e]
  have : uw (v : Int) = v := by unfold uw; rw [IntKind.wrap_u64]; omega
  rw [this]; rfl
theorem sw_uw (t : Int) (ht : -9223372036854775808 ≤ t ∧ t < 9223372036854775808) : sw ((uw t).toNat : Int) = t := by
  have hr := uw_range t
  obtain ⟨m1, h1⟩ := uw_val t
  have e : ((uw t).toNat : Int) = t + 18446744073709551616 * (- m1) := by omega
  rw [sw_same e, sw_in ht]
/-- what is read has just these bits -/
theorem S.got_some {s : S} {L : List Bool} {t : Int} (h : s.got L = some t) : L = s.code t ++ L.drop (s.cost t) ∧ s.cost t ≤ L.length ∧ -9223372036854775808 ≤ t ∧ t < 9223372036854775808 := by
  unfold S.got at h
  unfold S.code S.cost
  by_cases hn : s.n = 0
  · simp only [hn, if_true] at h ⊢
    by_cases hl : L.length < 64
    · rw [if_pos hl] at h; cases h
    · rw [if_neg hl] at h
      obtain rfl := Option.some.inj h
      have hlen : (L.take 64).length = 64 := by rw [List.length_take]; omega
      have hv := Bit.val_lt (L.take 64)
      rw [hlen] at hv
      refine ⟨?_, by omega, sw_range _⟩
      rw [uw_sw _ hv]
      have := Bit.of_val (L.take 64)
      rw [hlen] at this
      rw [this, List.take_append_drop]
  · simp only [hn, if_false] at h ⊢
    cases hm : markOf L with
    | none => simp [hm] at h
    | some i =>
      simp only [hm] at h
      by_cases hl : L.length < marks i + size i
      · rw [if_pos hl] at h; cases h
      · rw [if_neg hl] at h
        have hlen : ((L.drop (marks i)).take (size i)).length = size i := by rw [List.length_take, List.length_drop]; omega
        have hv := Bit.val_lt ((L.drop (marks i)).take (size i))
        have hov := Bit.of_val ((L.drop (marks i)).take (size i))
        rw [hlen] at hv hov
        generalize Bit.val ((L.drop (marks i)).take (size i)) = v at *
        by_cases hc : cls (told i v) = i
        · rw [if_pos hc] at h
          obtain rfl := Option.some.inj h
          rw [back_change s _ (told_range i v), hc]
          refine ⟨?_, by omega, sw_range _⟩
          unfold St.code
          rw [hc, told_code i v hv, hov]
          obtain ⟨_, hL⟩ := markOf_some hm
          conv => lhs; rw [hL]
          show mkb i ++ _ = mkb i ++ _ ++ _
          rw [List.append_assoc]
          congr 1
          rw [← List.drop_drop, List.take_append_drop]
        · rw [if_neg hc] at h; cases h
/-- what was put is read -/
theorem S.got_code (s : S) (t : Int) (ht : -9223372036854775808 ≤ t ∧ t < 9223372036854775808) (R : List Bool) : s.got (S.code s t ++ R) = some t := by
  unfold S.got S.code
  by_cases hn : s.n = 0
  · simp only [hn, if_true]
    have hl : ¬ (Bit.of (uw t).toNat 64 ++ R).length < 64 := by rw [List.length_append, Bit.of_length]; omega
    rw [if_neg hl, List.take_append_of_le_length (by rw [Bit.of_length]; omega), List.take_of_length_le (by rw [Bit.of_length]; omega), Bit.val_of]
    have hr := uw_range t
    have e : (2 : Nat) ^ 64 = 18446744073709551616 := by decide
    rw [Nat.mod_eq_of_lt (by omega), sw_uw t ht]
  · simp only [hn, if_false]
    have hr := change_range s t
    obtain ⟨hv, htold⟩ := code_lt (s.change t) hr
    have hcl := cls_lt (s.change t)
    have hcb := change_back s t ht
    unfold St.code
    generalize hc : s.change t = c at *
    generalize hi : cls c = i at *
    generalize (uw (sw (c + plus i))).toNat = v at *
    have hm : markOf (Bit.of (mark i) (marks i) ++ Bit.of v (size i) ++ R) = some i := by rw [List.append_assoc]; exact markOf_mk i hcl _
    have hl : ¬ (Bit.of (mark i) (marks i) ++ Bit.of v (size i) ++ R).length < marks i + size i := by simp only [List.length_append, Bit.of_length]; omega
    have hd : ((Bit.of (mark i) (marks i) ++ Bit.of v (size i) ++ R).drop (marks i)).take (size i) = Bit.of v (size i) := by
      rw [List.append_assoc]
      rw [List.drop_append_of_le_length (by rw [Bit.of_length]; omega), List.drop_of_length_le (by rw [Bit.of_length]; omega), List.nil_append]
      rw [List.take_append_of_le_length (by rw [Bit.of_length]; omega), List.take_of_length_le (by rw [Bit.of_length]; omega)]
    simp only [hm, if_neg hl, hd, Bit.val_of, Nat.mod_eq_of_lt hv, htold, hi, if_true, hcb]
end St
end Go.Proofs.YtfgcgjogaaofdaaGreatDoor
