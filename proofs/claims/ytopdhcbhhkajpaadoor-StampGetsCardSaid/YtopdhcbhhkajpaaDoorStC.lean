/-
  What Cost of package stamp, and Put of the reference, come to.
-/
import Derived.Test.YtopdhcbhhkajpaaDoorStB
namespace Go.Proofs.YtopdhcbhhkajpaaDoor
open Go.RowKit

set_option maxRecDepth 100000 in
set_option maxHeartbeats 400000 in
theorem cost_any (s : St.S) (t : Int) (w : World) (hT : ClsOk w) :
    Calls Tryd.prog 18 #[s.val, .int .i64 t] w fun e w' => e = .returned (.int .i64 (s.cost t : Nat)) ∧ Below w.heap.size w w' := by
  have Hchange := fun W => change_any s t W
  have hcd : s.cost t = if s.n = 0 then 64 else St.marks (St.cls (s.change t)) + St.size (St.cls (s.change t)) := rfl
  generalize s.cost t = C at *
  generalize s.change t = c at *
  obtain ⟨n, x, d⟩ := s
  have HT := Lib.hid hT; clear hT
  simp only [St.S.val] at *
  by_cases h : n = 0
  · subst h
    simp only [if_pos] at hcd
    subst hcd
    go_enter Tryd.func18, Tryd.ntmps18
    go_wp2_with fail
    go_ret
    exact ⟨rfl, (Below.refl _ _).alloc (Nat.le_refl _) _⟩
  · have h2 : (n == 0) = false := by simp [h]
    rw [if_neg h] at hcd
    have hcl := fun W hW => classOf_any c W hW
    have hk5 := St.cls_lt c
    generalize St.cls c = k at *
    have Hcl := Lib.hid hcl; clear hcl
    go_enter Tryd.func18, Tryd.ntmps18
    go_wp2_with fail
    refine (Hchange _).mono ?_; rintro e w1 ⟨rfl, hb1⟩
    have hb : Below w.heap.size w w1 := ((Below.refl _ _).alloc (Nat.le_refl _) _).trans (hb1.mono (by simp))
    have HT1 : Hid (ClsOk w1) := Lib.hid (HT.out.later hb)
    have HB := Lib.hid hb; clear hb hb1
    go_wp2_with fail
    refine (Hcl.out _ HT1.out).mono ?_; rintro e wx ⟨rfl, rfl⟩
    have c0 := HT1.out k hk5 0 (by omega)
    have c1 := HT1.out k hk5 1 (by omega)
    have c2 := HT1.out k hk5 2 (by omega)
    have c3 := HT1.out k hk5 3 (by omega)
    have c4 := HT1.out k hk5 4 (by omega)
    have c5 := HT1.out k hk5 5 (by omega)
    simp only [St.cell, List.getD_cons_zero, List.getD_cons_succ, Nat.add_zero] at c0 c1 c2 c3 c4 c5
    have hm4 : St.marks k ≤ 4 := by unfold St.marks; split <;> omega
    have hz : St.size k ≤ 64 := by unfold St.size; split <;> omega
    generalize St.marks k = ms at *
    generalize St.size k = sz at *
    go_wp2_with fail
    go_ret
    refine ⟨ret_int ?_, HB.out.alloc HB.out.size _⟩
    omega
theorem St.str_marks : (⟨#[48]⟩ : ByteArray) = Bit.str (Bit.of 0 1) ∧ (⟨#[49, 48]⟩ : ByteArray) = Bit.str (Bit.of 2 2) ∧ (⟨#[49, 49, 48]⟩ : ByteArray) = Bit.str (Bit.of 6 3) ∧ (⟨#[49, 49, 49, 48]⟩ : ByteArray) = Bit.str (Bit.of 14 4) ∧ (⟨#[49, 49, 49, 49]⟩ : ByteArray) = Bit.str (Bit.of 15 4) := by
  refine ⟨?_, ?_, ?_, ?_, ?_⟩ <;> decide +kernel
theorem wrap64_wrap64 (y : Int) : wrap64 (wrap64 y) = wrap64 y := by unfold wrap64; omega
set_option maxRecDepth 100000 in
set_option maxHeartbeats 4000000 in
theorem rPut_any (s : St.S) (t : Int) (w : World) :
    Calls Tryd.prog 13 #[s.val, .int .i64 t] w fun e w' => e = .returned (.tuple #[.string (Bit.str (s.code t)), (s.next t).val]) ∧ Below w.heap.size w w' := by
  obtain ⟨n, x, d⟩ := s
  have hcd : (St.S.mk n x d).code t = if n = 0 then Bit.of (St.uw t).toNat 64 else St.code (wrap64 (wrap64 (t - x) - d)) := rfl
  have hnx : (St.S.mk n x d).next t = if n = 0 then ⟨1, t, 0⟩ else ⟨wrap64 (n + 1), t, wrap64 (t - x)⟩ := rfl
  rw [hnx]; clear hnx
  generalize (St.S.mk n x d).code t = C at *
  unfold St.S.val
  by_cases h : n = 0
  · subst h
    simp only [if_pos] at hcd ⊢
    have hur := St.uw_range t
    obtain ⟨u, hu⟩ : ∃ u : Nat, St.uw t = u := ⟨(St.uw t).toNat, by omega⟩
    have HU : Hid (u < 18446744073709551616) := Lib.hid (by omega)
    rw [hu, Int.toNat_natCast] at hcd
    have hu2 : IntKind.u64.wrap t = (u : Int) := hu
    clear hur hu
    subst hcd
    go_enter Tryd.func13, Tryd.ntmps13
    go_wp2_with fail
    refine (rBits_any u HU 64 _).mono ?_; rintro e wx ⟨rfl, rfl⟩
    go_wp2_with fail
    refine bodyPost_ret (v := .tuple #[.string (Bit.str (Bit.of u 64)), .agg #[.int .i64 1, .int .i64 t, .int .i64 0]]) ?_ rfl ⟨rfl, ?_⟩
    · simp [results, go_sem]
      rfl
    · exact ((Below.refl _ _).alloc (Nat.le_refl _) _).alloc (by simp) _
  · rw [if_neg h] at hcd ⊢
    have h2 : (n == 0) = false := by simp [h]
    generalize hdd : wrap64 (t - x) = dd at *
    generalize hc : wrap64 (dd - d) = c at *
    have hbits : ∀ k, St.cls c = k → Bit.str C = Bit.str (Bit.of (St.mark k) (St.marks k)) ++ Bit.str (Bit.of (St.uw (St.sw (c + St.plus k))).toNat (St.size k)) := fun k hk => by
      rw [hcd, St.code, hk, Bit.str_append]
    have hcr : wrap64 (c + 0) = c := by rw [Int.add_zero, ← hc, wrap64_wrap64]
    clear hcd
    obtain ⟨m0, m1, m2, m3, m4⟩ := St.str_marks
    rcases St.cls_cases c with ⟨q, hk⟩ | ⟨q0, q1, q2, hk⟩ | ⟨q0 | q0, q1, q2, hk⟩ | ⟨q0 | q0, q1, q2, hk⟩ | ⟨q0 | q0, hk⟩
    · have hb := hbits 0 hk
      have e0 : (c == 0) = true := by simp [q]
      have hb2 : Bit.str C = ⟨#[48]⟩ := by rw [hb, m0]; exact Bit.str_append _ _
      rw [hb2]
      clear hb hbits hk m0 m1 m2 m3 m4 hb2 hcr q
      subst hc hdd
      go_enter Tryd.func13, Tryd.ntmps13
      go_wp2_with fail
      go_region
      go_wp2_with fail
      refine bodyPost_ret (v := .tuple #[.string ⟨#[48]⟩, .agg #[.int .i64 (wrap64 (n + 1)), .int .i64 t, .int .i64 (wrap64 (t - x))]]) ?_ rfl ⟨rfl, ?_⟩
      · simp [results, go_sem]
        try rfl
      · exact (((Below.refl _ _).alloc (Nat.le_refl _) _).alloc (by simp) _).grown ⟨rfl, rfl, rfl, Nat.le_refl _, fun _ _ _ => rfl⟩ (row := none) (by simp; omega) (fun r e => by cases e)
    · have hb := hbits 1 hk
      obtain ⟨u, hu, HU⟩ : ∃ u : Nat, IntKind.u64.wrap (wrap64 (c + 63)) = (u : Int) ∧ Hid (u < 18446744073709551616) := by
        have hur := St.uw_range (wrap64 (c + 63))
        exact ⟨(St.uw (wrap64 (c + 63))).toNat, (Int.toNat_of_nonneg hur.1).symm, Lib.hid (by omega)⟩
      have hb2 : Bit.str C = ⟨#[49, 48]⟩ ++ Bit.str (Bit.of u 7) := by
        rw [hb, m1]
        have : (St.uw (St.sw (c + St.plus 1))).toNat = u := by
          show (IntKind.u64.wrap (wrap64 (c + 63))).toNat = u
          rw [hu]; rfl
        rw [this]; rfl
      have e0 : (c == 0) = false := by simp; omega
      have a1 : decide (-63 ≤ c) = true := by simp; omega
      have b1 : decide (c ≤ 64) = true := by simp; omega
      rw [hb2]
      clear hb hbits hk m0 m1 m2 m3 m4 hb2 hcr q0 q1 q2
      subst hc hdd
      go_enter Tryd.func13, Tryd.ntmps13
      go_wp2_with fail
      refine (rBits_any u HU 7 _).mono ?_; rintro e wx ⟨rfl, rfl⟩
      have hsz : ¬ 9223372036854775807 < (⟨#[49, 48]⟩ : ByteArray).size + (Bit.str (Bit.of u (Bit.wd 7))).size := by
        rw [Bit.str_size, Bit.of_length]
        have := Bit.wd_le 7
        have h0 : (⟨#[49, 48]⟩ : ByteArray).size = 2 := rfl
        omega
      go_wp2_with fail
      go_region
      go_wp2_with fail
      refine bodyPost_ret (v := .tuple #[.string (⟨#[49, 48]⟩ ++ Bit.str (Bit.of u 7)), .agg #[.int .i64 (wrap64 (n + 1)), .int .i64 t, .int .i64 (wrap64 (t - x))]]) ?_ rfl ⟨rfl, ?_⟩
      · simp [results, go_sem]
        try rfl
      · exact (((Below.refl _ _).alloc (Nat.le_refl _) _).alloc (by simp) _).grown ⟨rfl, rfl, rfl, Nat.le_refl _, fun _ _ _ => rfl⟩ (row := none) (by simp; omega) (fun r e => by cases e)
    · have hb := hbits 2 hk
      obtain ⟨u, hu, HU⟩ : ∃ u : Nat, IntKind.u64.wrap (wrap64 (c + 255)) = (u : Int) ∧ Hid (u < 18446744073709551616) := by
        have hur := St.uw_range (wrap64 (c + 255))
        exact ⟨(St.uw (wrap64 (c + 255))).toNat, (Int.toNat_of_nonneg hur.1).symm, Lib.hid (by omega)⟩
      have hb2 : Bit.str C = ⟨#[49, 49, 48]⟩ ++ Bit.str (Bit.of u 9) := by
        rw [hb, m2]
        have : (St.uw (St.sw (c + St.plus 2))).toNat = u := by
          show (IntKind.u64.wrap (wrap64 (c + 255))).toNat = u
          rw [hu]; rfl
        rw [this]; rfl
      have e0 : (c == 0) = false := by simp; omega
      have a1 : decide (-63 ≤ c) = false := by simp; omega
      have a2 : decide (-255 ≤ c) = true := by simp; omega
      have b2 : decide (c ≤ 256) = true := by simp; omega
      rw [hb2]
      clear hb hbits hk m0 m1 m2 m3 m4 hb2 hcr q0 q1 q2
      subst hc hdd
      go_enter Tryd.func13, Tryd.ntmps13
      go_wp2_with fail
      refine (rBits_any u HU 9 _).mono ?_; rintro e wx ⟨rfl, rfl⟩
      have hsz : ¬ 9223372036854775807 < (⟨#[49, 49, 48]⟩ : ByteArray).size + (Bit.str (Bit.of u (Bit.wd 9))).size := by
        rw [Bit.str_size, Bit.of_length]
        have := Bit.wd_le 9
        have h0 : (⟨#[49, 49, 48]⟩ : ByteArray).size = 3 := rfl
        omega
      go_wp2_with fail
      go_region
      go_wp2_with fail
      refine bodyPost_ret (v := .tuple #[.string (⟨#[49, 49, 48]⟩ ++ Bit.str (Bit.of u 9)), .agg #[.int .i64 (wrap64 (n + 1)), .int .i64 t, .int .i64 (wrap64 (t - x))]]) ?_ rfl ⟨rfl, ?_⟩
      · simp [results, go_sem]
        try rfl
      · exact (((Below.refl _ _).alloc (Nat.le_refl _) _).alloc (by simp) _).grown ⟨rfl, rfl, rfl, Nat.le_refl _, fun _ _ _ => rfl⟩ (row := none) (by simp; omega) (fun r e => by cases e)
    · have hb := hbits 2 hk
      obtain ⟨u, hu, HU⟩ : ∃ u : Nat, IntKind.u64.wrap (wrap64 (c + 255)) = (u : Int) ∧ Hid (u < 18446744073709551616) := by
        have hur := St.uw_range (wrap64 (c + 255))
        exact ⟨(St.uw (wrap64 (c + 255))).toNat, (Int.toNat_of_nonneg hur.1).symm, Lib.hid (by omega)⟩
      have hb2 : Bit.str C = ⟨#[49, 49, 48]⟩ ++ Bit.str (Bit.of u 9) := by
        rw [hb, m2]
        have : (St.uw (St.sw (c + St.plus 2))).toNat = u := by
          show (IntKind.u64.wrap (wrap64 (c + 255))).toNat = u
          rw [hu]; rfl
        rw [this]; rfl
      have e0 : (c == 0) = false := by simp; omega
      have a1 : decide (-63 ≤ c) = true := by simp; omega
      have b1 : decide (c ≤ 64) = false := by simp; omega
      have a2 : decide (-255 ≤ c) = true := by simp; omega
      have b2 : decide (c ≤ 256) = true := by simp; omega
      rw [hb2]
      clear hb hbits hk m0 m1 m2 m3 m4 hb2 hcr q0 q1 q2
      subst hc hdd
      go_enter Tryd.func13, Tryd.ntmps13
      go_wp2_with fail
      refine (rBits_any u HU 9 _).mono ?_; rintro e wx ⟨rfl, rfl⟩
      have hsz : ¬ 9223372036854775807 < (⟨#[49, 49, 48]⟩ : ByteArray).size + (Bit.str (Bit.of u (Bit.wd 9))).size := by
        rw [Bit.str_size, Bit.of_length]
        have := Bit.wd_le 9
        have h0 : (⟨#[49, 49, 48]⟩ : ByteArray).size = 3 := rfl
        omega
      go_wp2_with fail
      go_region
      go_wp2_with fail
      refine bodyPost_ret (v := .tuple #[.string (⟨#[49, 49, 48]⟩ ++ Bit.str (Bit.of u 9)), .agg #[.int .i64 (wrap64 (n + 1)), .int .i64 t, .int .i64 (wrap64 (t - x))]]) ?_ rfl ⟨rfl, ?_⟩
      · simp [results, go_sem]
        try rfl
      · exact (((Below.refl _ _).alloc (Nat.le_refl _) _).alloc (by simp) _).grown ⟨rfl, rfl, rfl, Nat.le_refl _, fun _ _ _ => rfl⟩ (row := none) (by simp; omega) (fun r e => by cases e)
    · have hb := hbits 3 hk
      obtain ⟨u, hu, HU⟩ : ∃ u : Nat, IntKind.u64.wrap (wrap64 (c + 2047)) = (u : Int) ∧ Hid (u < 18446744073709551616) := by
        have hur := St.uw_range (wrap64 (c + 2047))
        exact ⟨(St.uw (wrap64 (c + 2047))).toNat, (Int.toNat_of_nonneg hur.1).symm, Lib.hid (by omega)⟩
      have hb2 : Bit.str C = ⟨#[49, 49, 49, 48]⟩ ++ Bit.str (Bit.of u 12) := by
        rw [hb, m3]
        have : (St.uw (St.sw (c + St.plus 3))).toNat = u := by
          show (IntKind.u64.wrap (wrap64 (c + 2047))).toNat = u
          rw [hu]; rfl
        rw [this]; rfl
      have e0 : (c == 0) = false := by simp; omega
      have a1 : decide (-63 ≤ c) = false := by simp; omega
      have a2 : decide (-255 ≤ c) = false := by simp; omega
      have a3 : decide (-2047 ≤ c) = true := by simp; omega
      have b3 : decide (c ≤ 2048) = true := by simp; omega
      rw [hb2]
      clear hb hbits hk m0 m1 m2 m3 m4 hb2 hcr q0 q1 q2
      subst hc hdd
      go_enter Tryd.func13, Tryd.ntmps13
      go_wp2_with fail
      refine (rBits_any u HU 12 _).mono ?_; rintro e wx ⟨rfl, rfl⟩
      have hsz : ¬ 9223372036854775807 < (⟨#[49, 49, 49, 48]⟩ : ByteArray).size + (Bit.str (Bit.of u (Bit.wd 12))).size := by
        rw [Bit.str_size, Bit.of_length]
        have := Bit.wd_le 12
        have h0 : (⟨#[49, 49, 49, 48]⟩ : ByteArray).size = 4 := rfl
        omega
      go_wp2_with fail
      go_region
      go_wp2_with fail
      refine bodyPost_ret (v := .tuple #[.string (⟨#[49, 49, 49, 48]⟩ ++ Bit.str (Bit.of u 12)), .agg #[.int .i64 (wrap64 (n + 1)), .int .i64 t, .int .i64 (wrap64 (t - x))]]) ?_ rfl ⟨rfl, ?_⟩
      · simp [results, go_sem]
        try rfl
      · exact (((Below.refl _ _).alloc (Nat.le_refl _) _).alloc (by simp) _).grown ⟨rfl, rfl, rfl, Nat.le_refl _, fun _ _ _ => rfl⟩ (row := none) (by simp; omega) (fun r e => by cases e)
    · have hb := hbits 3 hk
      obtain ⟨u, hu, HU⟩ : ∃ u : Nat, IntKind.u64.wrap (wrap64 (c + 2047)) = (u : Int) ∧ Hid (u < 18446744073709551616) := by
        have hur := St.uw_range (wrap64 (c + 2047))
        exact ⟨(St.uw (wrap64 (c + 2047))).toNat, (Int.toNat_of_nonneg hur.1).symm, Lib.hid (by omega)⟩
      have hb2 : Bit.str C = ⟨#[49, 49, 49, 48]⟩ ++ Bit.str (Bit.of u 12) := by
        rw [hb, m3]
        have : (St.uw (St.sw (c + St.plus 3))).toNat = u := by
          show (IntKind.u64.wrap (wrap64 (c + 2047))).toNat = u
          rw [hu]; rfl
        rw [this]; rfl
      have e0 : (c == 0) = false := by simp; omega
      have a1 : decide (-63 ≤ c) = true := by simp; omega
      have b1 : decide (c ≤ 64) = false := by simp; omega
      have a2 : decide (-255 ≤ c) = true := by simp; omega
      have b2 : decide (c ≤ 256) = false := by simp; omega
      have a3 : decide (-2047 ≤ c) = true := by simp; omega
      have b3 : decide (c ≤ 2048) = true := by simp; omega
      rw [hb2]
      clear hb hbits hk m0 m1 m2 m3 m4 hb2 hcr q0 q1 q2
      subst hc hdd
      go_enter Tryd.func13, Tryd.ntmps13
      go_wp2_with fail
      refine (rBits_any u HU 12 _).mono ?_; rintro e wx ⟨rfl, rfl⟩
      have hsz : ¬ 9223372036854775807 < (⟨#[49, 49, 49, 48]⟩ : ByteArray).size + (Bit.str (Bit.of u (Bit.wd 12))).size := by
        rw [Bit.str_size, Bit.of_length]
        have := Bit.wd_le 12
        have h0 : (⟨#[49, 49, 49, 48]⟩ : ByteArray).size = 4 := rfl
        omega
      go_wp2_with fail
      go_region
      go_wp2_with fail
      refine bodyPost_ret (v := .tuple #[.string (⟨#[49, 49, 49, 48]⟩ ++ Bit.str (Bit.of u 12)), .agg #[.int .i64 (wrap64 (n + 1)), .int .i64 t, .int .i64 (wrap64 (t - x))]]) ?_ rfl ⟨rfl, ?_⟩
      · simp [results, go_sem]
        try rfl
      · exact (((Below.refl _ _).alloc (Nat.le_refl _) _).alloc (by simp) _).grown ⟨rfl, rfl, rfl, Nat.le_refl _, fun _ _ _ => rfl⟩ (row := none) (by simp; omega) (fun r e => by cases e)
    · have hb := hbits 4 hk
      obtain ⟨u, hu, HU⟩ : ∃ u : Nat, IntKind.u64.wrap (c) = (u : Int) ∧ Hid (u < 18446744073709551616) := by
        have hur := St.uw_range (c)
        exact ⟨(St.uw (c)).toNat, (Int.toNat_of_nonneg hur.1).symm, Lib.hid (by omega)⟩
      have hb2 : Bit.str C = ⟨#[49, 49, 49, 49]⟩ ++ Bit.str (Bit.of u 64) := by
        rw [hb, m4]
        have : (St.uw (St.sw (c + St.plus 4))).toNat = u := by
          show (IntKind.u64.wrap (wrap64 (c + 0))).toNat = u
          rw [hcr, hu]; rfl
        rw [this]; rfl
      have e0 : (c == 0) = false := by simp; omega
      have a1 : decide (-63 ≤ c) = false := by simp; omega
      have a2 : decide (-255 ≤ c) = false := by simp; omega
      have a3 : decide (-2047 ≤ c) = false := by simp; omega
      rw [hb2]
      clear hb hbits hk m0 m1 m2 m3 m4 hb2 hcr q0
      subst hc hdd
      go_enter Tryd.func13, Tryd.ntmps13
      go_wp2_with fail
      refine (rBits_any u HU 64 _).mono ?_; rintro e wx ⟨rfl, rfl⟩
      have hsz : ¬ 9223372036854775807 < (⟨#[49, 49, 49, 49]⟩ : ByteArray).size + (Bit.str (Bit.of u (Bit.wd 64))).size := by
        rw [Bit.str_size, Bit.of_length]
        have := Bit.wd_le 64
        have h0 : (⟨#[49, 49, 49, 49]⟩ : ByteArray).size = 4 := rfl
        omega
      go_wp2_with fail
      go_region
      go_wp2_with fail
      refine bodyPost_ret (v := .tuple #[.string (⟨#[49, 49, 49, 49]⟩ ++ Bit.str (Bit.of u 64)), .agg #[.int .i64 (wrap64 (n + 1)), .int .i64 t, .int .i64 (wrap64 (t - x))]]) ?_ rfl ⟨rfl, ?_⟩
      · simp [results, go_sem]
        try rfl
      · exact (((Below.refl _ _).alloc (Nat.le_refl _) _).alloc (by simp) _).grown ⟨rfl, rfl, rfl, Nat.le_refl _, fun _ _ _ => rfl⟩ (row := none) (by simp; omega) (fun r e => by cases e)
    · have hb := hbits 4 hk
      obtain ⟨u, hu, HU⟩ : ∃ u : Nat, IntKind.u64.wrap (c) = (u : Int) ∧ Hid (u < 18446744073709551616) := by
        have hur := St.uw_range (c)
        exact ⟨(St.uw (c)).toNat, (Int.toNat_of_nonneg hur.1).symm, Lib.hid (by omega)⟩
      have hb2 : Bit.str C = ⟨#[49, 49, 49, 49]⟩ ++ Bit.str (Bit.of u 64) := by
        rw [hb, m4]
        have : (St.uw (St.sw (c + St.plus 4))).toNat = u := by
          show (IntKind.u64.wrap (wrap64 (c + 0))).toNat = u
          rw [hcr, hu]; rfl
        rw [this]; rfl
      have e0 : (c == 0) = false := by simp; omega
      have a1 : decide (-63 ≤ c) = true := by simp; omega
      have b1 : decide (c ≤ 64) = false := by simp; omega
      have a2 : decide (-255 ≤ c) = true := by simp; omega
      have b2 : decide (c ≤ 256) = false := by simp; omega
      have a3 : decide (-2047 ≤ c) = true := by simp; omega
      have b3 : decide (c ≤ 2048) = false := by simp; omega
      rw [hb2]
      clear hb hbits hk m0 m1 m2 m3 m4 hb2 hcr q0
      subst hc hdd
      go_enter Tryd.func13, Tryd.ntmps13
      go_wp2_with fail
      refine (rBits_any u HU 64 _).mono ?_; rintro e wx ⟨rfl, rfl⟩
      have hsz : ¬ 9223372036854775807 < (⟨#[49, 49, 49, 49]⟩ : ByteArray).size + (Bit.str (Bit.of u (Bit.wd 64))).size := by
        rw [Bit.str_size, Bit.of_length]
        have := Bit.wd_le 64
        have h0 : (⟨#[49, 49, 49, 49]⟩ : ByteArray).size = 4 := rfl
        omega
      go_wp2_with fail
      go_region
      go_wp2_with fail
      refine bodyPost_ret (v := .tuple #[.string (⟨#[49, 49, 49, 49]⟩ ++ Bit.str (Bit.of u 64)), .agg #[.int .i64 (wrap64 (n + 1)), .int .i64 t, .int .i64 (wrap64 (t - x))]]) ?_ rfl ⟨rfl, ?_⟩
      · simp [results, go_sem]
        try rfl
      · exact (((Below.refl _ _).alloc (Nat.le_refl _) _).alloc (by simp) _).grown ⟨rfl, rfl, rfl, Nat.le_refl _, fun _ _ _ => rfl⟩ (row := none) (by simp; omega) (fun r e => by cases e)
end Go.Proofs.YtopdhcbhhkajpaaDoor
