/-
  TruthOnce: the walk.
-/
import Derived.Test.YtidfanmfibbiiaaTrHe
namespace Go.Proofs.Ytidfanmfibbiiaa
open Go.RowKit
set_option maxRecDepth 100000 in
set_option maxHeartbeats 8000000 in
theorem truthOnce_walk0 (W : World) (A : Option Addr) (n c : Nat) (hn : n ≤ maxLen) (o : Nat → OpAt) (hA : Row 7 (fun i => (o i).cell) W A n) (ho : ∀ i, i < n → OpIn W (o i)) (xa : Option Addr) (xn xc : Nat) (f : Nat → Lab) (hxn : xn ≤ maxLen) (hx : LabRow W xa xn f) (hxz : xa = none → xn = 0 ∧ xc = 0)
    (t v u : Int) :
    Calls Try.prog 6 #[.slice A n c, .slice xa xn xc, .int .i64 t, .int .u64 v, .int .u64 u] W fun e w' => e = .returned (.bool true) ∧ Below W.heap.size W w' := by
  have HA := Lib.hid hA; have HO := Lib.hid ho; have HX := Lib.hid hx; have HXZ := Lib.hid hxz
  have HWO := Lib.hid (works_any W)
  have HFW := Lib.hid (fun U (hb : Below W.heap.size W U) => FewOps_any A n c hn o U (hA.later hb) (fun i hi => (ho i hi).later hb))
  have HFX := Lib.hid (fun U (hb : Below W.heap.size W U) => Few_any xa xn xc hxn f U (hx.later hb))
  clear hA ho hx hxz
  go_enter Try.func6, Try.ntmps6
  go_wp2_with fail
  refine HWO.out.mono ?_; rintro e w1 ⟨rfl, hb1⟩
  have HB1 := Lib.hid hb1; clear hb1 HWO
  go_wp2_with fail
  refine (HFW.out _ HB1.out).mono ?_; rintro e w2 ⟨rfl, hb2⟩
  have HB2 := Lib.hid (below_step HB1.out hb2); clear hb2 HFW
  cases hfew : fewOs o n
  · clear hfew
    go_wp2_with fail
    go_ret
    exact ⟨rfl, HB2.out⟩
  obtain ⟨hn40, hfo⟩ := fewOs_yes hfew
  have HSM := Lib.hid (fun i (hi : i < n) => (HO.out i hi).sm (hfo i hi))
  clear hfew hfo HO
  go_wp2_with fail
  refine (HFX.out _ HB2.out).mono ?_; rintro e w2x ⟨rfl, hb2⟩
  have HB2x := Lib.hid (below_step HB2.out hb2); clear hb2 HFX HB2
  cases hfew : La.few f xn
  · clear hfew
    go_wp2_with fail
    go_ret
    exact ⟨rfl, HB2x.out⟩
  have HXF := Lib.hid (La.few_yes hfew)
  clear hfew
  go_wp2_with fail
  obtain ⟨w3, hw3⟩ : ∃ w3, w3 = w2x.alloc (.cells #[.slice none 0 0, .int .i64 0] 28) := ⟨_, rfl⟩
  obtain ⟨sb, hsb⟩ : ∃ sb, sb = w2x.heap.size := ⟨_, rfl⟩
  have hb3 : Below w2x.heap.size w2x w3 := by rw [hw3]; exact (Below.refl _ _).alloc (Nat.le_refl _) _
  have HST : Hid (StAt W w3 sb none 0 0 q0 0) := Lib.hid ⟨below_step HB2x.out hb3, by rw [hsb]; exact HB2x.out.size, by rw [hw3, hsb]; exact heap_alloc_new w2x _, ⟨World.ownsRow_nil _ _ _ _, by omega, fun i hi => by omega, fun i j hi => by omega⟩, Tr.ok_empty⟩
  rw [← hw3, ← hsb]
  clear hw3 hsb hb3
  go_loopw [14] (fun i wr => ∃ (k : Nat) (A' : Option Addr) (n' c' : Nat) (q : Nat → SerAt) (fl : Int), k ≤ n ∧ i = .int .i64 k ∧ StAt W wr sb A' n' c' q fl) (fun i _ => n - (intOf i).toNat)
  case atStart => exact ⟨0, none, 0, 0, q0, 0, by omega, rfl, HST.out⟩
  case round =>
    obtain ⟨k, A', n', c', q, fl, hkn, rfl, hst⟩ := hrel
    have HS := Lib.hid hst; clear hst HST
    have i0 : (0 : Int) ≤ (k : Int) := Int.natCast_nonneg _
    by_cases hlt : k < n
    · have i1 : (k : Int) < (n : Int) := by omega
      have d1 : decide ((k : Int) < (n : Int)) = true := decide_eq_true i1
      obtain ⟨ad, rfl, cc0, cc⟩ := HA.out.at_ HS.out.bel hlt
      obtain ⟨hf1, hf2⟩ := ok_few HS.out.ok
      have HDO := Lib.hid (fun U (hb : Below wr.heap.size wr U) => Do_any A' n' c' q fl 3 (o k) U (HS.out.far hb).srs (by omega) (fun i hi => Nat.le_trans (hf2 i hi) (by decide)) ((HSM.out k hlt).later (HS.out.far hb).bel))
      have HOK := Lib.hid (Tr.ok_run par_good HS.out.ok (o k).op 3)
      generalize hr : Tr.run par ⟨sers q n', fl⟩ (o k).op 3 = r at *
      clear hr
      go_wp2_with fail
      refine plain_T (fun U => Below wr.heap.size wr U) [6, 7, 8, 9, 10] (by kernel_rfl) ?_
      have HD : Hid (Below wr.heap.size wr wr.drew) := Lib.hid (Below.refl _ _).drew
      generalize wr.drew = wd at HD ⊢
      have HOC : Hid (∀ U, Below wr.heap.size wr U → U.cell? (ad.add (k * 7)) = some (.int .i64 (o k).kind) ∧ U.cell? ⟨(ad.add (k * 7)).block, (ad.add (k * 7)).off + 1, none⟩ = some (.slice (o k).la (o k).ln (o k).lc) ∧ U.cell? ⟨(ad.add (k * 7)).block, (ad.add (k * 7)).off + 2, none⟩ = some (.slice (o k).ma (o k).mn (o k).mc) ∧ U.cell? ⟨(ad.add (k * 7)).block, (ad.add (k * 7)).off + 3, none⟩ = some (.int .i64 (o k).t) ∧ U.cell? ⟨(ad.add (k * 7)).block, (ad.add (k * 7)).off + 4, none⟩ = some (.int .i64 (o k).hi) ∧ U.cell? ⟨(ad.add (k * 7)).block, (ad.add (k * 7)).off + 5, none⟩ = some (.int .u64 (o k).v) ∧ U.cell? ⟨(ad.add (k * 7)).block, (ad.add (k * 7)).off + 6, none⟩ = some (.int .i64 (o k).gen)) := Lib.hid (fun U hU =>
        ⟨cell_keep (cc0 (by decide)) hU, cell_keep (cc 1 (by omega) (by omega)) hU, cell_keep (cc 2 (by omega) (by omega)) hU, cell_keep (cc 3 (by omega) (by omega)) hU, cell_keep (cc 4 (by omega) (by omega)) hU, cell_keep (cc 5 (by omega) (by omega)) hU, cell_keep (cc 6 (by omega) (by omega)) hU⟩)
      clear cc0 cc
      refine wpAnyT_pick (S := (fun U => Below wr.heap.size wr U)) (by kernel_rfl) Only.panic Only.keepsIn (w := wd) HD.out [0, 1, 2, 3, 4] 6 _ _ (by kernel_rfl) ?_
      refine PickT.value (d := some 47) (.agg #[.slice A' n' c', .int .i64 fl]) rfl rfl (by kernel_rfl) (fun U hU => (by have hy := heap_keep HS.out.sk hU; have h0 : U.cell? ⟨sb, 0, none⟩ = some (.slice A' n' c') := cell_of_row _ _ _ _ _ _ hy; have h1 : U.cell? ⟨sb, 1, none⟩ = some (.int .i64 fl) := cell_of_row _ _ _ _ _ _ hy; go_simp)) ?_
      refine PickT.value (d := some 48) (.slice (some ad) n c) rfl rfl (by kernel_rfl) (fun U hU => (by go_simp)) ?_
      refine PickT.value (d := some 49) (.int .i64 (k : Int)) rfl rfl (by kernel_rfl) (fun U hU => (by go_simp)) ?_
      refine PickT.value (d := some 50) (.pointer (some (ad.add (k * 7)))) rfl rfl (by kernel_rfl) (fun U hU => (by go_simp)) ?_
      refine PickT.value (d := some 51) (.agg #[.int .i64 (o k).kind, .slice (o k).la (o k).ln (o k).lc, .slice (o k).ma (o k).mn (o k).mc, .int .i64 (o k).t, .int .i64 (o k).hi, .int .u64 (o k).v, .int .i64 (o k).gen]) rfl rfl (by kernel_rfl) (fun U hU => (by obtain ⟨h0, h1, h2, h3, h4, h5, h6⟩ := HOC.out U hU; go_simp)) ?_
      simp only [PickT, Act.put, List.setIfInBounds_toArray, List.set_cons_zero, List.set_cons_succ]
      refine wpAnyT_one (i := 5) (by kernel_rfl) rfl (by kernel_rfl) ?_
      intro K hK
      unfold Oper.wp
      go_simp
      refine (HDO.out _ HD.out).mono ?_; rintro e w9 ⟨A9, n9, c9, q9, B9, m9, d9, aq9, C9, k9, f9, rr9, rfl, -, hse9, -, -, -, -, hb9, hrw9, -⟩
      have HB9 := Lib.hid (below_step HD.out hb9)
      have HRW9 := Lib.hid (hrw9.from_ (Nat.le_trans HS.out.bel.size HD.out.size)); have HSE9 := Lib.hid hse9
      clear hb9 hrw9 hse9 HDO HOC
      refine hK _ _ (fun _ => HB9.out) ?_
      clear hK K
      refine wpAnyT_turn (fun _ => True) [] (by kernel_rfl) ?_
      refine wpAnyT_pick (S := (fun _ => True)) (by kernel_rfl) Only.panic Only.keepsIn (w := w9) True.intro [6, 7, 8, 9] 1 _ _ (by kernel_rfl) ?_
      refine PickT.value (d := some 46) (.tuple #[.agg #[.slice A9 n9 c9, .int .i64 r.1.floor], .agg #[.int .i64 r.2.1.err, .int .i64 r.2.1.n, .slice B9 m9 d9], .slice C9 k9 f9]) rfl rfl (by kernel_rfl) (fun U hU => (by go_simp)) ?_
      refine PickT.value (d := some 53) (.agg #[.slice A9 n9 c9, .int .i64 r.1.floor]) rfl rfl (by kernel_rfl) (fun U hU => (by go_simp)) ?_
      refine PickT.value (d := some 54) (.agg #[.int .i64 r.2.1.err, .int .i64 r.2.1.n, .slice B9 m9 d9]) rfl rfl (by kernel_rfl) (fun U hU => (by go_simp)) ?_
      refine PickT.value (d := some 55) (.slice C9 k9 f9) rfl rfl (by kernel_rfl) (fun U hU => (by go_simp)) ?_
      simp only [PickT, Act.put, List.setIfInBounds_toArray, List.set_cons_zero, List.set_cons_succ]
      have a0 : w9.cell? ⟨sb, 0, none⟩ = some (.slice A' n' c') := cell_of_row _ _ _ _ _ _ (heap_keep HS.out.sk HB9.out)
      have a1 : w9.cell? ⟨sb, 1, none⟩ = some (.int .i64 fl) := cell_of_row _ _ _ _ _ _ (heap_keep HS.out.sk HB9.out)
      have b0 : w9.frozen? ⟨sb, 0, none⟩ = false := frozen_of_row _ _ _ _ _ (heap_keep HS.out.sk HB9.out)
      have b1 : w9.frozen? ⟨sb, 1, none⟩ = false := frozen_of_row _ _ _ _ _ (heap_keep HS.out.sk HB9.out)
      refine wpAnyT_one (i := 10) (by kernel_rfl) rfl (by kernel_rfl) ?_
      intro K hK
      unfold Oper.wp
      go_simp
      clear a0 a1 b0 b1
      refine hK _ _ (fun _ => True.intro) ?_
      clear hK K
      have HN := Lib.hid (HS.out.next HB9.out HRW9.out (by rw [HSE9.out]; exact HOK.out))
      clear HRW9 HSE9 HOK HB9
      refine wpAnyT_done (by kernel_rfl) ?_ _
      refine only_mk ?_
      go_wp2_with fail
      go_roundw
      case rel => exact ⟨k + 1, A9, n9, c9, q9, r.1.floor, by omega, by go_num, HN.out⟩
      case measure => simp [intOf]; omega
    · have d1 : decide ((k : Int) < (n : Int)) = false := decide_eq_false (by omega)
      clear HA HSM i0
      have HF0 := Lib.hid (ok_few HS.out.ok)
      have HOX : Hid (∀ U tt vv, Below W.heap.size W U → OpSm U (opL xa xn xc f tt vv)) := Lib.hid (fun U tt vv hb => opL_sm tt vv (HX.out.later hb) HXZ.out HXF.out.1 HXF.out.2)
      obtain ⟨r4, hr4⟩ : ∃ r, r = Tr.run par ⟨sers q n', fl⟩ (opL xa xn xc f t v).op 3 := ⟨_, rfl⟩
      have HD4 := Lib.hid (Do_any A' n' c' q fl 3 (opL xa xn xc f t v) wr HS.out.srs (by have := HF0.out.1; omega) (fun i hi => Nat.le_trans (HF0.out.2 i hi) (by decide)) (HOX.out wr t v HS.out.bel))
      rw [← hr4] at HD4
      have HR4 := Lib.hid hr4
      clear hr4
      have s0 : wr.cell? ⟨sb, 0, none⟩ = some (.slice A' n' c') := cell_of_row _ _ _ _ _ _ HS.out.sk
      have s1 : wr.cell? ⟨sb, 1, none⟩ = some (.int .i64 fl) := cell_of_row _ _ _ _ _ _ HS.out.sk
      clear HX HXZ HXF
      go_wp2_with fail
      clear s0 s1 d1 hlt
      refine HD4.out.mono ?_; rintro e w4 ⟨A4, n4, c4, q4, B4, m4, d4, aq4, C4, k4, f4, rr4, rfl, hs4, hse4, hsa4, hsea4, -, hre4, hbl4, -, -⟩
      obtain ⟨fl4, hfl4⟩ : ∃ x, x = r4.1.floor := ⟨_, rfl⟩
      obtain ⟨er4, her4⟩ : ∃ x, x = r4.2.1.err := ⟨_, rfl⟩
      obtain ⟨cn4, hcn4⟩ : ∃ x, x = r4.2.1.n := ⟨_, rfl⟩
      rw [← hfl4, ← her4, ← hcn4]
      have HE4 := Lib.hid (st_eq hse4 hfl4)
      have HER4 := Lib.hid her4; have HCN4 := Lib.hid hcn4; have HAQ4 := Lib.hid hsea4
      have HRC4 : Hid (k4 = r4.2.2.length) := Lib.hid (by rw [← hre4, recsL_len])
      have hlen4 : n4 = r4.1.ser.length := by rw [← hse4, sers_length]
      have HLN4 := Lib.hid hlen4
      clear hse4 hfl4 her4 hcn4 hsea4 hre4 hlen4 HD4
      by_cases he4 : er4 = 0
      · by_cases hc4 : cn4 = 0
        · subst he4
          subst hc4
          have HFIN := Lib.hid (below_step HS.out.bel (below_step hbl4 (two_laid w4 (.slice A4 n4 c4) (.int .i64 fl4) (.int .i64 0) (.int .i64 0) (.slice B4 m4 d4)).1))
          clear hs4 hsa4 hbl4
          go_wp2_with fail
          go_ret
          exact ⟨rfl, HFIN.out⟩
        · have hn4 : r4.2.1.n ≠ 0 := by rw [← HCN4.out]; exact hc4
          have hn4' := hn4
          rw [HR4.out] at hn4'
          have ht0 : 0 ≤ t := (Tr.once_run hn4').2.2.1
          have ht1 : t ≤ Tr.maxT := (Tr.once_run hn4').2.2.2
          have HT := Lib.hid (And.intro ht0 ht1)
          have wt1 : wrap64 (t - 1) = t - 1 := IntWalk.wrap64_in _ (by have : Tr.maxT = 1125899906842624 := rfl; omega)
          have hcn4 : (cn4 == 0) = false := by simpa using hc4
          have hcd4 : decide (cn4 = 0) = false := decide_eq_false hc4
          have HN4 := Lib.hid hn4'
          clear hn4 hn4' ht0 ht1
          subst he4
          obtain ⟨hb4, hX4, hY4⟩ := two_laid w4 (.slice A4 n4 c4) (.int .i64 fl4) (.int .i64 0) (.int .i64 cn4) (.slice B4 m4 d4)
          obtain ⟨W4, hW4⟩ : ∃ W4, W4 = (w4.alloc (.cells #[.slice A4 n4 c4, .int .i64 fl4] 28)).alloc (.cells #[.int .i64 0, .int .i64 cn4, .slice B4 m4 d4] 31) := ⟨_, rfl⟩
          rw [← hW4] at hb4 hX4 hY4
          obtain ⟨b4, hbb4⟩ : ∃ b4, b4 = w4.heap.size := ⟨_, rfl⟩
          rw [← hbb4] at hX4 hY4
          have HX4 := Lib.hid hX4; have HY4 := Lib.hid hY4; have HBL4 := Lib.hid hbl4
          have HB4 := Lib.hid (below_step hbl4 hb4)
          have HS4 := Lib.hid (hs4.later hb4); have HSA4 := Lib.hid (hsa4.later hb4)
          clear hX4 hY4 hbl4 hb4 hs4 hsa4
          have HW4 := Lib.hid (below_step HS.out.bel HB4.out)
          have hf4 := Tr.ok_run par_good HS.out.ok (opL xa xn xc f t v).op 3
          rw [← HR4.out, ← HE4.out] at hf4
          have HF4 := Lib.hid (ok_few hf4)
          clear hf4
          obtain ⟨r5, hr5⟩ : ∃ r, r = Tr.run par ⟨sers q4 n4, fl4⟩ (opL xa xn xc f t v).op 3 := ⟨_, rfl⟩
          have HD5 := Lib.hid (Do_any A4 n4 c4 q4 fl4 3 (opL xa xn xc f t v) W4 HS4.out (by have := HF4.out.1; omega) (fun i hi => Nat.le_trans (HF4.out.2 i hi) (by decide)) (HOX.out W4 t v HW4.out))
          rw [← hr5] at HD5
          have HR5 := Lib.hid hr5
          clear hr5
          go_wp2_with fail
          rw [← hW4, ← hbb4]
          clear hW4 hbb4 hcn4 hcd4 hc4
          refine HD5.out.mono ?_; rintro e w5 ⟨A5, n5, c5, q5, B5, m5, d5, aq5, C5, k5, f5, rr5, rfl, hs5, hse5, hsa5, hsea5, -, hre5, hbl5, -, -⟩
          obtain ⟨fl5, hfl5⟩ : ∃ x, x = r5.1.floor := ⟨_, rfl⟩
          obtain ⟨er5, her5⟩ : ∃ x, x = r5.2.1.err := ⟨_, rfl⟩
          obtain ⟨cn5, hcn5⟩ : ∃ x, x = r5.2.1.n := ⟨_, rfl⟩
          rw [← hfl5, ← her5, ← hcn5]
          have HE5 := Lib.hid (st_eq hse5 hfl5)
          have HER5 := Lib.hid her5; have HCN5 := Lib.hid hcn5; have HAQ5 := Lib.hid hsea5
          have HRC5 : Hid (k5 = r5.2.2.length) := Lib.hid (by rw [← hre5, recsL_len])
          have hlen5 : n5 = r5.1.ser.length := by rw [← hse5, sers_length]
          have HLN5 := Lib.hid hlen5
          clear hse5 hfl5 her5 hcn5 hsea5 hre5 hlen5 HD5
          have hx := HR5.out
          rw [HE4.out, HR4.out] at hx
          obtain ⟨h1, h2, h3⟩ := Tr.once_b par_good HS.out.ok HN4.out
          obtain rfl : er5 = 0 := by rw [HER5.out, hx]; exact h1
          obtain rfl : cn5 = 0 := by rw [HCN5.out, hx]; exact h2
          have hk5 : k5 = 0 := by rw [HRC5.out, hx]; exact congrArg List.length h3
          subst hk5
          clear hx h1 h2 h3
          have s0 : w5.cell? ⟨b4, 0, none⟩ = some (.slice A4 n4 c4) := cell_of_row _ _ _ _ _ _ (heap_keep HX4.out hbl5)
          have s1 : w5.cell? ⟨b4, 1, none⟩ = some (.int .i64 fl4) := cell_of_row _ _ _ _ _ _ (heap_keep HX4.out hbl5)
          have sl : b4 < w5.heap.size := (Array.getElem?_eq_some_iff.1 (heap_keep HX4.out hbl5)).1
          obtain ⟨hb5, hX5, hY5⟩ := two_laid w5 (.slice A5 n5 c5) (.int .i64 fl5) (.int .i64 0) (.int .i64 0) (.slice B5 m5 d5)
          obtain ⟨W5, hW5⟩ : ∃ W5, W5 = (w5.alloc (.cells #[.slice A5 n5 c5, .int .i64 fl5] 28)).alloc (.cells #[.int .i64 0, .int .i64 0, .slice B5 m5 d5] 31) := ⟨_, rfl⟩
          rw [← hW5] at hb5 hX5 hY5
          obtain ⟨b5, hbb5⟩ : ∃ b5, b5 = w5.heap.size := ⟨_, rfl⟩
          rw [← hbb5] at hX5 hY5
          have HX5 := Lib.hid hX5; have HY5 := Lib.hid hY5; have HBL5 := Lib.hid hbl5
          have HB5 := Lib.hid (below_step hbl5 hb5)
          have HS5 := Lib.hid (hs5.later hb5); have HSA5 := Lib.hid (hsa5.later hb5)
          clear hX5 hY5 hbl5 hb5 hs5 hsa5
          have HW5 := Lib.hid (below_step HW4.out HB5.out)
          have HX45 := Lib.hid (heap_keep HX4.out HB5.out)
          obtain ⟨r6, hr6⟩ : ∃ r, r = Tr.run par ⟨sers q4 n4, fl4⟩ (opL xa xn xc f t u).op 3 := ⟨_, rfl⟩
          have HD6 := Lib.hid (Do_any A4 n4 c4 q4 fl4 3 (opL xa xn xc f t u) W5 (HS4.out.later HB5.out) (by have := HF4.out.1; omega) (fun i hi => Nat.le_trans (HF4.out.2 i hi) (by decide)) (HOX.out W5 t u HW5.out))
          rw [← hr6] at HD6
          have HR6 := Lib.hid hr6
          clear hr6
          go_wp2_with fail
          rw [← hW5, ← hbb5]
          clear hW5 hbb5 s0 s1 sl
          refine HD6.out.mono ?_; rintro e w6 ⟨A6, n6, c6, q6, B6, m6, d6, aq6, C6, k6, f6, rr6, rfl, hs6, hse6, hsa6, hsea6, -, hre6, hbl6, -, -⟩
          obtain ⟨fl6, hfl6⟩ : ∃ x, x = r6.1.floor := ⟨_, rfl⟩
          obtain ⟨er6, her6⟩ : ∃ x, x = r6.2.1.err := ⟨_, rfl⟩
          obtain ⟨cn6, hcn6⟩ : ∃ x, x = r6.2.1.n := ⟨_, rfl⟩
          rw [← hfl6, ← her6, ← hcn6]
          have HE6 := Lib.hid (st_eq hse6 hfl6)
          have HER6 := Lib.hid her6; have HCN6 := Lib.hid hcn6; have HAQ6 := Lib.hid hsea6
          have HRC6 : Hid (k6 = r6.2.2.length) := Lib.hid (by rw [← hre6, recsL_len])
          have hlen6 : n6 = r6.1.ser.length := by rw [← hse6, sers_length]
          have HLN6 := Lib.hid hlen6
          clear hse6 hfl6 her6 hcn6 hsea6 hre6 hlen6 HD6
          have s0 : w6.cell? ⟨b4, 0, none⟩ = some (.slice A4 n4 c4) := cell_of_row _ _ _ _ _ _ (heap_keep HX45.out hbl6)
          have s1 : w6.cell? ⟨b4, 1, none⟩ = some (.int .i64 fl4) := cell_of_row _ _ _ _ _ _ (heap_keep HX45.out hbl6)
          have sl : b4 < w6.heap.size := (Array.getElem?_eq_some_iff.1 (heap_keep HX45.out hbl6)).1
          obtain ⟨hb6, hX6, hY6⟩ := two_laid w6 (.slice A6 n6 c6) (.int .i64 fl6) (.int .i64 er6) (.int .i64 cn6) (.slice B6 m6 d6)
          obtain ⟨W6, hW6⟩ : ∃ W6, W6 = (w6.alloc (.cells #[.slice A6 n6 c6, .int .i64 fl6] 28)).alloc (.cells #[.int .i64 er6, .int .i64 cn6, .slice B6 m6 d6] 31) := ⟨_, rfl⟩
          rw [← hW6] at hb6 hX6 hY6
          obtain ⟨b6, hbb6⟩ : ∃ b6, b6 = w6.heap.size := ⟨_, rfl⟩
          rw [← hbb6] at hX6 hY6
          have HX6 := Lib.hid hX6; have HY6 := Lib.hid hY6; have HBL6 := Lib.hid hbl6
          have HB6 := Lib.hid (below_step hbl6 hb6)
          have HS6 := Lib.hid (hs6.later hb6); have HSA6 := Lib.hid (hsa6.later hb6)
          clear hX6 hY6 hbl6 hb6 hs6 hsa6
          have HW6 := Lib.hid (below_step HW5.out HB6.out)
          have HY56 := Lib.hid (heap_keep HY5.out HB6.out)
          obtain ⟨r7, hr7⟩ : ∃ r, r = Tr.run par ⟨sers q4 n4, fl4⟩ (opL xa xn xc f (t - 1) v).op 3 := ⟨_, rfl⟩
          have HD7 := Lib.hid (Do_any A4 n4 c4 q4 fl4 3 (opL xa xn xc f (t - 1) v) W6 ((HS4.out.later HB5.out).later HB6.out) (by have := HF4.out.1; omega) (fun i hi => Nat.le_trans (HF4.out.2 i hi) (by decide)) (HOX.out W6 (t - 1) v HW6.out))
          rw [← hr7] at HD7
          have HR7 := Lib.hid hr7
          clear hr7
          go_wp2_with fail
          rw [← hW6, ← hbb6]
          clear hW6 hbb6 s0 s1 sl wt1
          refine HD7.out.mono ?_; rintro e w7 ⟨A7, n7, c7, q7, B7, m7, d7, aq7, C7, k7, f7, rr7, rfl, hs7, hse7, hsa7, hsea7, -, hre7, hbl7, -, -⟩
          obtain ⟨fl7, hfl7⟩ : ∃ x, x = r7.1.floor := ⟨_, rfl⟩
          obtain ⟨er7, her7⟩ : ∃ x, x = r7.2.1.err := ⟨_, rfl⟩
          obtain ⟨cn7, hcn7⟩ : ∃ x, x = r7.2.1.n := ⟨_, rfl⟩
          rw [← hfl7, ← her7, ← hcn7]
          have HE7 := Lib.hid (st_eq hse7 hfl7)
          have HER7 := Lib.hid her7; have HCN7 := Lib.hid hcn7; have HAQ7 := Lib.hid hsea7
          have HRC7 : Hid (k7 = r7.2.2.length) := Lib.hid (by rw [← hre7, recsL_len])
          have hlen7 : n7 = r7.1.ser.length := by rw [← hse7, sers_length]
          have HLN7 := Lib.hid hlen7
          clear hse7 hfl7 her7 hcn7 hsea7 hre7 hlen7 HD7
          have hx := HR7.out
          rw [HE4.out, HR4.out] at hx
          obtain ⟨h1, h3⟩ := Tr.once_d (u := v) (s := t - 1) par_good HS.out.ok HN4.out (show t - 1 < t by omega)
          have he7 : ¬ er7 = 0 := by rw [HER7.out, hx]; exact h1
          have hk7 : k7 = 0 := by rw [HRC7.out, hx]; exact congrArg List.length h3
          subst hk7
          clear hx h1 h3
          obtain ⟨hb7, hX7, hY7⟩ := two_laid w7 (.slice A7 n7 c7) (.int .i64 fl7) (.int .i64 er7) (.int .i64 cn7) (.slice B7 m7 d7)
          obtain ⟨W7, hW7⟩ : ∃ W7, W7 = (w7.alloc (.cells #[.slice A7 n7 c7, .int .i64 fl7] 28)).alloc (.cells #[.int .i64 er7, .int .i64 cn7, .slice B7 m7 d7] 31) := ⟨_, rfl⟩
          rw [← hW7] at hb7 hX7 hY7
          obtain ⟨b7, hbb7⟩ : ∃ b7, b7 = w7.heap.size := ⟨_, rfl⟩
          rw [← hbb7] at hX7 hY7
          have HX7 := Lib.hid hX7; have HY7 := Lib.hid hY7; have HBL7 := Lib.hid hbl7
          have HB7 := Lib.hid (below_step hbl7 hb7)
          have HS7 := Lib.hid (hs7.later hb7); have HSA7 := Lib.hid (hsa7.later hb7)
          clear hX7 hY7 hbl7 hb7 hs7 hsa7
          go_upto_region 18 with (fail)
          rw [← hW7, ← hbb7]
          clear hW7 hbb7
          have hy5 := heap_keep HY56.out HB7.out
          have hy6 := heap_keep HY6.out HB7.out
          have p0 : W7.cell? ⟨b5 + 1, 0, none⟩ = some (.int .i64 0) := cell_of_row _ _ _ _ _ _ hy5
          have p1 : W7.cell? ⟨b5 + 1, 1, none⟩ = some (.int .i64 0) := cell_of_row _ _ _ _ _ _ hy5
          have g0 : W7.cell? ⟨b6 + 1, 0, none⟩ = some (.int .i64 er6) := cell_of_row _ _ _ _ _ _ hy6
          have v0 : W7.cell? ⟨b7 + 1, 0, none⟩ = some (.int .i64 er7) := cell_of_row _ _ _ _ _ _ HY7.out
          clear hy5 hy6
          have e7a : (er7 != 0) = true := by simpa using he7
          have e7b : (er7 == 0) = false := by simpa using he7
          have e7c : decide (er7 = 0) = false := decide_eq_false he7
          have HFIN := Lib.hid (below_step HW6.out HB7.out)
          by_cases huv : u = v
          · have u1 : (u == v) = true := by simpa using huv
            have u2 : decide (u = v) = true := decide_eq_true huv
            clear huv
            go_wp2_with fail
            go_ret
            exact ⟨rfl, HFIN.out⟩
          · have u1 : (u == v) = false := by simpa using huv
            have u2 : decide (u = v) = false := decide_eq_false huv
            have hx := HR6.out
            rw [HE4.out, HR4.out] at hx
            obtain ⟨h1, h3⟩ := Tr.once_c (u := u) par_good HS.out.ok HN4.out huv
            obtain rfl : er6 = 5 := by rw [HER6.out, hx]; exact h1
            have hk6 : k6 = 0 := by rw [HRC6.out, hx]; exact congrArg List.length h3
            subst hk6
            clear hx h1 h3 huv
            go_wp2_with fail
            go_ret
            exact ⟨rfl, HFIN.out⟩
      · have e4a : (er4 != 0) = true := by simpa using he4
        have e4b : (er4 == 0) = false := by simpa using he4
        have e4c : decide (er4 = 0) = false := decide_eq_false he4
        have HFIN := Lib.hid (below_step HS.out.bel (below_step hbl4 (two_laid w4 (.slice A4 n4 c4) (.int .i64 fl4) (.int .i64 er4) (.int .i64 cn4) (.slice B4 m4 d4)).1))
        clear hs4 hsa4 hbl4 he4
        go_wp2_with fail
        go_ret
        exact ⟨rfl, HFIN.out⟩
set_option maxRecDepth 100000 in
theorem truthOnce_walk {H : Type} {enc : TypeId × Value → H} {r : Reach} {b0 : Nat} {a : Value} {d : DataW H} {p : List MemPlace} (w : World)
    (hv : Value.okWide Try.prog w r b0 22 a) (h : DataW.Trod enc Try.prog w 0 (fun _ => true) true 22 a d p) (xa : Option Addr) (xn xc : Nat) (f : Nat → Lab) (hn0 : xn ≤ maxLen) (_hz : ∀ i, i < xn → (f i).1.size ≤ maxLen ∧ (f i).2.size ≤ maxLen) (hl : LabRow w xa xn f) (hx : xa = none → xn = 0 ∧ xc = 0) (_hq : xn ≤ xc)
    (t : Int) (_ht : (Lit.int .i64 t).wf = true) (v : Int) (_hv : (Lit.int .u64 v).wf = true) (u : Int) (_hu : (Lit.int .u64 u).wf = true) :
    Calls Try.prog 6 #[a, .slice xa xn xc, .int .i64 t, .int .u64 v, .int .u64 u] w fun e w' => e = .returned (.bool true) ∧ Below w.heap.size w w' := by
  obtain ⟨A, n, c, o, rfl, hn, hA, ho⟩ := open_ops hv h
  exact truthOnce_walk0 w A n c hn o hA ho xa xn xc f hn0 hl hx t v u
end Go.Proofs.Ytidfanmfibbiiaa
