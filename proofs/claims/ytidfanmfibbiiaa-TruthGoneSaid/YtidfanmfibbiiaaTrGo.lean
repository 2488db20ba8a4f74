/-
  TruthGone: the walk.
-/
import Derived.Test.YtidfanmfibbiiaaTrHe
namespace Go.Proofs.Ytidfanmfibbiiaa
open Go.RowKit
set_option maxRecDepth 100000 in
set_option maxHeartbeats 8000000 in
theorem truthGone_walk0 (W : World) (A : Option Addr) (n c : Nat) (hn : n ≤ maxLen) (o : Nat → OpAt) (hA : Row 7 (fun i => (o i).cell) W A n) (ho : ∀ i, i < n → OpIn W (o i)) (ma : Option Addr) (mn mc : Nat) (mm : Nat → Mat) (hmn : mn ≤ maxLen) (hx : Row 3 (mx mm) W ma mn) (hxz : ma = none → mn = 0 ∧ mc = 0)
    (lo hi : Int) :
    Calls Try.prog 7 #[.slice A n c, .slice ma mn mc, .int .i64 lo, .int .i64 hi] W fun e w' => e = .returned (.bool true) ∧ Below W.heap.size W w' := by
  have HA := Lib.hid hA; have HO := Lib.hid ho; have HX := Lib.hid hx; have HXZ := Lib.hid hxz
  have HWO := Lib.hid (works_any W)
  have HFW := Lib.hid (fun U (hb : Below W.heap.size W U) => FewOps_any A n c hn o U (hA.later hb) (fun i hi => (ho i hi).later hb))
  have HFX := Lib.hid (fun U (hb : Below W.heap.size W U) => MFew_any ma mn mc hmn mm U (hx.later hb))
  clear hA ho hx hxz
  go_enter Try.func7, Try.ntmps7
  go_wp2_with fail
  refine HWO.out.mono ?_; rintro e w1 ⟨rfl, hb1⟩
  have HB1 := Lib.hid hb1; clear hb1 HWO
  go_wp2_with fail
  refine (HFW.out _ HB1.out).mono ?_; rintro e w2 ⟨rfl, hb2⟩
  have HB2 := Lib.hid (below_step HB1.out hb2); clear hb2 HFW
  cases hfew : fewOs o n
  · clear hfew
    go_wp2_with fail
    go_ret
    exact ⟨rfl, HB2.out⟩
  obtain ⟨hn40, hfo⟩ := fewOs_yes hfew
  have HSM := Lib.hid (fun i (hi : i < n) => (HO.out i hi).sm (hfo i hi))
  clear hfew hfo HO
  go_wp2_with fail
  refine (HFX.out _ HB2.out).mono ?_; rintro e w2x ⟨rfl, hb2⟩
  have HB2x := Lib.hid (below_step HB2.out hb2); clear hb2 HFX HB2
  cases hfew : La.few (Ma.lab mm) mn
  · clear hfew
    go_wp2_with fail
    go_ret
    exact ⟨rfl, HB2x.out⟩
  have HXF := Lib.hid (La.few_yes hfew)
  clear hfew
  go_wp2_with fail
  obtain ⟨w3, hw3⟩ : ∃ w3, w3 = w2x.alloc (.cells #[.slice none 0 0, .int .i64 0] 28) := ⟨_, rfl⟩
  obtain ⟨sb, hsb⟩ : ∃ sb, sb = w2x.heap.size := ⟨_, rfl⟩
  have hb3 : Below w2x.heap.size w2x w3 := by rw [hw3]; exact (Below.refl _ _).alloc (Nat.le_refl _) _
  have HST : Hid (StAt W w3 sb none 0 0 q0 0) := Lib.hid ⟨below_step HB2x.out hb3, by rw [hsb]; exact HB2x.out.size, by rw [hw3, hsb]; exact heap_alloc_new w2x _, ⟨World.ownsRow_nil _ _ _ _, by omega, fun i hi => by omega, fun i j hi => by omega⟩, Tr.ok_empty⟩
  rw [← hw3, ← hsb]
  clear hw3 hsb hb3
  go_loopw [12] (fun i wr => ∃ (k : Nat) (A' : Option Addr) (n' c' : Nat) (q : Nat → SerAt) (fl : Int), k ≤ n ∧ i = .int .i64 k ∧ StAt W wr sb A' n' c' q fl) (fun i _ => n - (intOf i).toNat)
  case atStart => exact ⟨0, none, 0, 0, q0, 0, by omega, rfl, HST.out⟩
  case round =>
    obtain ⟨k, A', n', c', q, fl, hkn, rfl, hst⟩ := hrel
    have HS := Lib.hid hst; clear hst HST
    have i0 : (0 : Int) ≤ (k : Int) := Int.natCast_nonneg _
    by_cases hlt : k < n
    · have i1 : (k : Int) < (n : Int) := by omega
      have d1 : decide ((k : Int) < (n : Int)) = true := decide_eq_true i1
      obtain ⟨ad, rfl, cc0, cc⟩ := HA.out.at_ HS.out.bel hlt
      obtain ⟨hf1, hf2⟩ := ok_few HS.out.ok
      have HDO := Lib.hid (fun U (hb : Below wr.heap.size wr U) => Do_any A' n' c' q fl 3 (o k) U (HS.out.far hb).srs (by omega) (fun i hi => Nat.le_trans (hf2 i hi) (by decide)) ((HSM.out k hlt).later (HS.out.far hb).bel))
      have HOK := Lib.hid (Tr.ok_run par_good HS.out.ok (o k).op 3)
      generalize hr : Tr.run par ⟨sers q n', fl⟩ (o k).op 3 = r at *
      clear hr
      go_wp2_with fail
      refine plain_T (fun U => Below wr.heap.size wr U) [6, 7, 8, 9, 10] (by kernel_rfl) ?_
      have HD : Hid (Below wr.heap.size wr wr.drew) := Lib.hid (Below.refl _ _).drew
      generalize wr.drew = wd at HD ⊢
      have HOC : Hid (∀ U, Below wr.heap.size wr U → U.cell? (ad.add (k * 7)) = some (.int .i64 (o k).kind) ∧ U.cell? ⟨(ad.add (k * 7)).block, (ad.add (k * 7)).off + 1, none⟩ = some (.slice (o k).la (o k).ln (o k).lc) ∧ U.cell? ⟨(ad.add (k * 7)).block, (ad.add (k * 7)).off + 2, none⟩ = some (.slice (o k).ma (o k).mn (o k).mc) ∧ U.cell? ⟨(ad.add (k * 7)).block, (ad.add (k * 7)).off + 3, none⟩ = some (.int .i64 (o k).t) ∧ U.cell? ⟨(ad.add (k * 7)).block, (ad.add (k * 7)).off + 4, none⟩ = some (.int .i64 (o k).hi) ∧ U.cell? ⟨(ad.add (k * 7)).block, (ad.add (k * 7)).off + 5, none⟩ = some (.int .u64 (o k).v) ∧ U.cell? ⟨(ad.add (k * 7)).block, (ad.add (k * 7)).off + 6, none⟩ = some (.int .i64 (o k).gen)) := Lib.hid (fun U hU =>
        ⟨cell_keep (cc0 (by decide)) hU, cell_keep (cc 1 (by omega) (by omega)) hU, cell_keep (cc 2 (by omega) (by omega)) hU, cell_keep (cc 3 (by omega) (by omega)) hU, cell_keep (cc 4 (by omega) (by omega)) hU, cell_keep (cc 5 (by omega) (by omega)) hU, cell_keep (cc 6 (by omega) (by omega)) hU⟩)
      clear cc0 cc
      refine wpAnyT_pick (S := (fun U => Below wr.heap.size wr U)) (by kernel_rfl) Only.panic Only.keepsIn (w := wd) HD.out [0, 1, 2, 3, 4] 6 _ _ (by kernel_rfl) ?_
      refine PickT.value (d := some 47) (.agg #[.slice A' n' c', .int .i64 fl]) rfl rfl (by kernel_rfl) (fun U hU => (by have hy := heap_keep HS.out.sk hU; have h0 : U.cell? ⟨sb, 0, none⟩ = some (.slice A' n' c') := cell_of_row _ _ _ _ _ _ hy; have h1 : U.cell? ⟨sb, 1, none⟩ = some (.int .i64 fl) := cell_of_row _ _ _ _ _ _ hy; go_simp)) ?_
      refine PickT.value (d := some 48) (.slice (some ad) n c) rfl rfl (by kernel_rfl) (fun U hU => (by go_simp)) ?_
      refine PickT.value (d := some 49) (.int .i64 (k : Int)) rfl rfl (by kernel_rfl) (fun U hU => (by go_simp)) ?_
      refine PickT.value (d := some 50) (.pointer (some (ad.add (k * 7)))) rfl rfl (by kernel_rfl) (fun U hU => (by go_simp)) ?_
      refine PickT.value (d := some 51) (.agg #[.int .i64 (o k).kind, .slice (o k).la (o k).ln (o k).lc, .slice (o k).ma (o k).mn (o k).mc, .int .i64 (o k).t, .int .i64 (o k).hi, .int .u64 (o k).v, .int .i64 (o k).gen]) rfl rfl (by kernel_rfl) (fun U hU => (by obtain ⟨h0, h1, h2, h3, h4, h5, h6⟩ := HOC.out U hU; go_simp)) ?_
      simp only [PickT, Act.put, List.setIfInBounds_toArray, List.set_cons_zero, List.set_cons_succ]
      refine wpAnyT_one (i := 5) (by kernel_rfl) rfl (by kernel_rfl) ?_
      intro K hK
      unfold Oper.wp
      go_simp
      refine (HDO.out _ HD.out).mono ?_; rintro e w9 ⟨A9, n9, c9, q9, B9, m9, d9, aq9, C9, k9, f9, rr9, rfl, -, hse9, -, -, -, -, hb9, hrw9, -⟩
      have HB9 := Lib.hid (below_step HD.out hb9)
      have HRW9 := Lib.hid (hrw9.from_ (Nat.le_trans HS.out.bel.size HD.out.size)); have HSE9 := Lib.hid hse9
      clear hb9 hrw9 hse9 HDO HOC
      refine hK _ _ (fun _ => HB9.out) ?_
      clear hK K
      refine wpAnyT_turn (fun _ => True) [] (by kernel_rfl) ?_
      refine wpAnyT_pick (S := (fun _ => True)) (by kernel_rfl) Only.panic Only.keepsIn (w := w9) True.intro [6, 7, 8, 9] 1 _ _ (by kernel_rfl) ?_
      refine PickT.value (d := some 46) (.tuple #[.agg #[.slice A9 n9 c9, .int .i64 r.1.floor], .agg #[.int .i64 r.2.1.err, .int .i64 r.2.1.n, .slice B9 m9 d9], .slice C9 k9 f9]) rfl rfl (by kernel_rfl) (fun U hU => (by go_simp)) ?_
      refine PickT.value (d := some 53) (.agg #[.slice A9 n9 c9, .int .i64 r.1.floor]) rfl rfl (by kernel_rfl) (fun U hU => (by go_simp)) ?_
      refine PickT.value (d := some 54) (.agg #[.int .i64 r.2.1.err, .int .i64 r.2.1.n, .slice B9 m9 d9]) rfl rfl (by kernel_rfl) (fun U hU => (by go_simp)) ?_
      refine PickT.value (d := some 55) (.slice C9 k9 f9) rfl rfl (by kernel_rfl) (fun U hU => (by go_simp)) ?_
      simp only [PickT, Act.put, List.setIfInBounds_toArray, List.set_cons_zero, List.set_cons_succ]
      have a0 : w9.cell? ⟨sb, 0, none⟩ = some (.slice A' n' c') := cell_of_row _ _ _ _ _ _ (heap_keep HS.out.sk HB9.out)
      have a1 : w9.cell? ⟨sb, 1, none⟩ = some (.int .i64 fl) := cell_of_row _ _ _ _ _ _ (heap_keep HS.out.sk HB9.out)
      have b0 : w9.frozen? ⟨sb, 0, none⟩ = false := frozen_of_row _ _ _ _ _ (heap_keep HS.out.sk HB9.out)
      have b1 : w9.frozen? ⟨sb, 1, none⟩ = false := frozen_of_row _ _ _ _ _ (heap_keep HS.out.sk HB9.out)
      refine wpAnyT_one (i := 10) (by kernel_rfl) rfl (by kernel_rfl) ?_
      intro K hK
      unfold Oper.wp
      go_simp
      clear a0 a1 b0 b1
      refine hK _ _ (fun _ => True.intro) ?_
      clear hK K
      have HN := Lib.hid (HS.out.next HB9.out HRW9.out (by rw [HSE9.out]; exact HOK.out))
      clear HRW9 HSE9 HOK HB9
      refine wpAnyT_done (by kernel_rfl) ?_ _
      refine only_mk ?_
      go_wp2_with fail
      go_roundw
      case rel => exact ⟨k + 1, A9, n9, c9, q9, r.1.floor, by omega, by go_num, HN.out⟩
      case measure => simp [intOf]; omega
    · have d1 : decide ((k : Int) < (n : Int)) = false := decide_eq_false (by omega)
      clear HA HSM i0
      have HF0 := Lib.hid (ok_few HS.out.ok)
      have HOX : Hid (∀ U kk, Below W.heap.size W U → OpSm U (opM kk ma mn mc mm lo hi)) := Lib.hid (fun U kk hb => opM_sm kk lo hi (HX.out.later hb) HXZ.out HXF.out.1 HXF.out.2)
      obtain ⟨r4, hr4⟩ : ∃ r, r = Tr.run par ⟨sers q n', fl⟩ (opM 3 ma mn mc mm lo hi).op 3 := ⟨_, rfl⟩
      have HD4 := Lib.hid (Do_any A' n' c' q fl 3 (opM 3 ma mn mc mm lo hi) wr HS.out.srs (by have := HF0.out.1; omega) (fun i hi => Nat.le_trans (HF0.out.2 i hi) (by decide)) (HOX.out wr 3 HS.out.bel))
      rw [← hr4] at HD4
      have HR4 := Lib.hid hr4
      clear hr4
      have s0 : wr.cell? ⟨sb, 0, none⟩ = some (.slice A' n' c') := cell_of_row _ _ _ _ _ _ HS.out.sk
      have s1 : wr.cell? ⟨sb, 1, none⟩ = some (.int .i64 fl) := cell_of_row _ _ _ _ _ _ HS.out.sk
      clear HX HXZ HXF
      go_wp2_with fail
      clear s0 s1 d1 hlt
      refine HD4.out.mono ?_; rintro e w4 ⟨A4, n4, c4, q4, B4, m4, d4, aq4, C4, k4, f4, rr4, rfl, hs4, hse4, hsa4, hsea4, -, hre4, hbl4, -, -⟩
      obtain ⟨fl4, hfl4⟩ : ∃ x, x = r4.1.floor := ⟨_, rfl⟩
      obtain ⟨er4, her4⟩ : ∃ x, x = r4.2.1.err := ⟨_, rfl⟩
      obtain ⟨cn4, hcn4⟩ : ∃ x, x = r4.2.1.n := ⟨_, rfl⟩
      rw [← hfl4, ← her4, ← hcn4]
      have HE4 := Lib.hid (st_eq hse4 hfl4)
      have HER4 := Lib.hid her4; have HCN4 := Lib.hid hcn4; have HAQ4 := Lib.hid hsea4
      have HRC4 : Hid (k4 = r4.2.2.length) := Lib.hid (by rw [← hre4, recsL_len])
      have hlen4 : n4 = r4.1.ser.length := by rw [← hse4, sers_length]
      have HLN4 := Lib.hid hlen4
      clear hse4 hfl4 her4 hcn4 hsea4 hre4 hlen4 HD4
      have s0 : w4.cell? ⟨sb, 0, none⟩ = some (.slice A' n' c') := cell_of_row _ _ _ _ _ _ (heap_keep HS.out.sk hbl4)
      have s1 : w4.cell? ⟨sb, 1, none⟩ = some (.int .i64 fl) := cell_of_row _ _ _ _ _ _ (heap_keep HS.out.sk hbl4)
      have sl : sb < w4.heap.size := (Array.getElem?_eq_some_iff.1 (heap_keep HS.out.sk hbl4)).1
      obtain ⟨hb4, hX4, hY4⟩ := two_laid w4 (.slice A4 n4 c4) (.int .i64 fl4) (.int .i64 er4) (.int .i64 cn4) (.slice B4 m4 d4)
      obtain ⟨W4, hW4⟩ : ∃ W4, W4 = (w4.alloc (.cells #[.slice A4 n4 c4, .int .i64 fl4] 28)).alloc (.cells #[.int .i64 er4, .int .i64 cn4, .slice B4 m4 d4] 31) := ⟨_, rfl⟩
      rw [← hW4] at hb4 hX4 hY4
      obtain ⟨b4, hbb4⟩ : ∃ b4, b4 = w4.heap.size := ⟨_, rfl⟩
      rw [← hbb4] at hX4 hY4
      have HX4 := Lib.hid hX4; have HY4 := Lib.hid hY4; have HBL4 := Lib.hid hbl4
      have HB4 := Lib.hid (below_step hbl4 hb4)
      have HS4 := Lib.hid (hs4.later hb4); have HSA4 := Lib.hid (hsa4.later hb4)
      clear hX4 hY4 hbl4 hb4 hs4 hsa4
      have HS4' := Lib.hid (HS.out.far HB4.out)
      obtain ⟨r5, hr5⟩ : ∃ r, r = Tr.run par ⟨sers q n', fl⟩ (opM 1 ma mn mc mm lo hi).op 3 := ⟨_, rfl⟩
      have HD5 := Lib.hid (Do_any A' n' c' q fl 3 (opM 1 ma mn mc mm lo hi) W4 HS4'.out.srs (by have := HF0.out.1; omega) (fun i hi => Nat.le_trans (HF0.out.2 i hi) (by decide)) (HOX.out W4 1 HS4'.out.bel))
      rw [← hr5] at HD5
      have HR5 := Lib.hid hr5
      clear hr5
      go_wp2_with fail
      rw [← hW4, ← hbb4]
      clear hW4 hbb4 s0 s1 sl
      refine HD5.out.mono ?_; rintro e w5 ⟨A5, n5, c5, q5, B5, m5, d5, aq5, C5, k5, f5, rr5, rfl, hs5, hse5, hsa5, hsea5, -, hre5, hbl5, -, -⟩
      obtain ⟨fl5, hfl5⟩ : ∃ x, x = r5.1.floor := ⟨_, rfl⟩
      obtain ⟨er5, her5⟩ : ∃ x, x = r5.2.1.err := ⟨_, rfl⟩
      obtain ⟨cn5, hcn5⟩ : ∃ x, x = r5.2.1.n := ⟨_, rfl⟩
      rw [← hfl5, ← her5, ← hcn5]
      have HE5 := Lib.hid (st_eq hse5 hfl5)
      have HER5 := Lib.hid her5; have HCN5 := Lib.hid hcn5; have HAQ5 := Lib.hid hsea5
      have HRC5 : Hid (k5 = r5.2.2.length) := Lib.hid (by rw [← hre5, recsL_len])
      have hlen5 : n5 = r5.1.ser.length := by rw [← hse5, sers_length]
      have HLN5 := Lib.hid hlen5
      clear hse5 hfl5 her5 hcn5 hsea5 hre5 hlen5 HD5
      have hok := Tr.ok_run par_good HS.out.ok (opM 1 ma mn mc mm lo hi).op 3
      rw [← HR5.out, ← HE5.out] at hok
      have HOK5 := Lib.hid hok
      clear hok
      have HY5' := Lib.hid (heap_keep HY4.out hbl5)
      obtain ⟨hb5, hX5, hY5⟩ := two_laid w5 (.slice A5 n5 c5) (.int .i64 fl5) (.int .i64 er5) (.int .i64 cn5) (.slice B5 m5 d5)
      obtain ⟨W5, hW5⟩ : ∃ W5, W5 = (w5.alloc (.cells #[.slice A5 n5 c5, .int .i64 fl5] 28)).alloc (.cells #[.int .i64 er5, .int .i64 cn5, .slice B5 m5 d5] 31) := ⟨_, rfl⟩
      rw [← hW5] at hb5 hX5 hY5
      obtain ⟨b5, hbb5⟩ : ∃ b5, b5 = w5.heap.size := ⟨_, rfl⟩
      rw [← hbb5] at hX5 hY5
      have HX5 := Lib.hid hX5; have HY5 := Lib.hid hY5; have HBL5 := Lib.hid hbl5
      have HB5 := Lib.hid (below_step hbl5 hb5)
      have HS5 := Lib.hid (hs5.later hb5); have HSA5 := Lib.hid (hsa5.later hb5)
      clear hX5 hY5 hbl5 hb5 hs5 hsa5
      have HW5 := Lib.hid (below_step HS4'.out.bel HB5.out)
      have HY45 := Lib.hid (heap_keep HY4.out HB5.out)
      have HSA45 := Lib.hid (HSA4.out.later HB5.out)
      have hr4 := HR4.out; have hr5 := HR5.out
      rw [runM3] at hr4
      rw [runM1] at hr5
      by_cases hm : par.mok ((List.range mn).map mm) = true ∧ lo ≤ hi
      · rw [if_pos hm] at hr4 hr5
        have HM := Lib.hid hm
        obtain rfl : er4 = 0 := by rw [HER4.out, hr4]
        obtain rfl : er5 = 0 := by rw [HER5.out, hr5]
        have HN5 : Hid (cn5 = ((Tr.removeN par ((List.range mn).map mm) lo hi (sers q n') : Nat) : Int) ∧ k5 = m4 ∧ n5 = n' ∧ sumSn aq4 m4 = Tr.removeN par ((List.range mn).map mm) lo hi (sers q n')) := Lib.hid (by
          have hq := HAQ4.out
          rw [hr4] at hq
          have hm4 : m4 = (Tr.askS par ((List.range mn).map mm) lo hi (sers q n')).length := by rw [← sers_length aq4 m4, hq]
          refine ⟨by rw [HCN5.out, hr5], ?_, ?_, ?_⟩
          · rw [HRC5.out, hr5, hm4]; exact Tr.recs_ask _ _ _ _
          · rw [HLN5.out, hr5]
            show (List.map _ (sers q n')).length = n'
            rw [List.length_map, sers_length]
          · rw [← sum_sers, hq]; exact Tr.count_ask _ _ _ _)
        have HE5R : Hid ((⟨sers q5 n5, fl5⟩ : Tr.Stt (List Lab)) = Tr.removeS par ⟨sers q n', fl⟩ ((List.range mn).map mm) lo hi) := Lib.hid (by rw [HE5.out, hr5])
        have HF5 := Lib.hid (ok_few HOK5.out)
        clear hr4 hr5 hm
        obtain ⟨r6, hr6⟩ : ∃ r, r = Tr.run par ⟨sers q5 n5, fl5⟩ (opM 1 ma mn mc mm lo hi).op 3 := ⟨_, rfl⟩
        have HD6 := Lib.hid (Do_any A5 n5 c5 q5 fl5 3 (opM 1 ma mn mc mm lo hi) W5 HS5.out (by have := HF5.out.1; omega) (fun i hi => Nat.le_trans (HF5.out.2 i hi) (by decide)) (HOX.out W5 1 HW5.out))
        rw [← hr6] at HD6
        have HR6 := Lib.hid hr6
        clear hr6
        go_wp2_with fail
        rw [← hW5, ← hbb5]
        clear hW5 hbb5
        refine HD6.out.mono ?_; rintro e w6 ⟨A6, n6, c6, q6, B6, m6, d6, aq6, C6, k6, f6, rr6, rfl, hs6, hse6, hsa6, hsea6, -, hre6, hbl6, -, -⟩
        obtain ⟨fl6, hfl6⟩ : ∃ x, x = r6.1.floor := ⟨_, rfl⟩
        obtain ⟨er6, her6⟩ : ∃ x, x = r6.2.1.err := ⟨_, rfl⟩
        obtain ⟨cn6, hcn6⟩ : ∃ x, x = r6.2.1.n := ⟨_, rfl⟩
        rw [← hfl6, ← her6, ← hcn6]
        have HE6 := Lib.hid (st_eq hse6 hfl6)
        have HER6 := Lib.hid her6; have HCN6 := Lib.hid hcn6; have HAQ6 := Lib.hid hsea6
        have HRC6 : Hid (k6 = r6.2.2.length) := Lib.hid (by rw [← hre6, recsL_len])
        have hlen6 : n6 = r6.1.ser.length := by rw [← hse6, sers_length]
        have HLN6 := Lib.hid hlen6
        clear hse6 hfl6 her6 hcn6 hsea6 hre6 hlen6 HD6
        have hx := HR6.out
        rw [HE5R.out, runM1] at hx
        have hx2 := hx.trans (if_pos HM.out)
        obtain rfl : er6 = 0 := by rw [HER6.out, hx2]
        obtain rfl : cn6 = 0 := by rw [HCN6.out, hx2]; exact congrArg Nat.cast (Tr.gone_count _ _ _)
        have hk6 : k6 = 0 := by rw [HRC6.out, hx2]; exact congrArg List.length (Tr.gone_recs _ _ _)
        subst hk6
        clear hx hx2
        have s0 : w6.cell? ⟨b5, 0, none⟩ = some (.slice A5 n5 c5) := cell_of_row _ _ _ _ _ _ (heap_keep HX5.out hbl6)
        have s1 : w6.cell? ⟨b5, 1, none⟩ = some (.int .i64 fl5) := cell_of_row _ _ _ _ _ _ (heap_keep HX5.out hbl6)
        have sl : b5 < w6.heap.size := (Array.getElem?_eq_some_iff.1 (heap_keep HX5.out hbl6)).1
        obtain ⟨hb6, hX6, hY6⟩ := two_laid w6 (.slice A6 n6 c6) (.int .i64 fl6) (.int .i64 0) (.int .i64 0) (.slice B6 m6 d6)
        obtain ⟨W6, hW6⟩ : ∃ W6, W6 = (w6.alloc (.cells #[.slice A6 n6 c6, .int .i64 fl6] 28)).alloc (.cells #[.int .i64 0, .int .i64 0, .slice B6 m6 d6] 31) := ⟨_, rfl⟩
        rw [← hW6] at hb6 hX6 hY6
        obtain ⟨b6, hbb6⟩ : ∃ b6, b6 = w6.heap.size := ⟨_, rfl⟩
        rw [← hbb6] at hX6 hY6
        have HX6 := Lib.hid hX6; have HY6 := Lib.hid hY6; have HBL6 := Lib.hid hbl6
        have HB6 := Lib.hid (below_step hbl6 hb6)
        have HS6 := Lib.hid (hs6.later hb6); have HSA6 := Lib.hid (hsa6.later hb6)
        clear hX6 hY6 hbl6 hb6 hs6 hsa6
        have HW6 := Lib.hid (below_step HW5.out HB6.out)
        obtain ⟨r7, hr7⟩ : ∃ r, r = Tr.run par ⟨sers q5 n5, fl5⟩ (opM 3 ma mn mc mm lo hi).op 3 := ⟨_, rfl⟩
        have HD7 := Lib.hid (Do_any A5 n5 c5 q5 fl5 3 (opM 3 ma mn mc mm lo hi) W6 (HS5.out.later HB6.out) (by have := HF5.out.1; omega) (fun i hi => Nat.le_trans (HF5.out.2 i hi) (by decide)) (HOX.out W6 3 HW6.out))
        rw [← hr7] at HD7
        have HR7 := Lib.hid hr7
        clear hr7
        go_wp2_with fail
        rw [← hW6, ← hbb6]
        clear hW6 hbb6 s0 s1 sl
        refine HD7.out.mono ?_; rintro e w7 ⟨A7, n7, c7, q7, B7, m7, d7, aq7, C7, k7, f7, rr7, rfl, hs7, hse7, hsa7, hsea7, -, hre7, hbl7, -, -⟩
        obtain ⟨fl7, hfl7⟩ : ∃ x, x = r7.1.floor := ⟨_, rfl⟩
        obtain ⟨er7, her7⟩ : ∃ x, x = r7.2.1.err := ⟨_, rfl⟩
        obtain ⟨cn7, hcn7⟩ : ∃ x, x = r7.2.1.n := ⟨_, rfl⟩
        rw [← hfl7, ← her7, ← hcn7]
        have HE7 := Lib.hid (st_eq hse7 hfl7)
        have HER7 := Lib.hid her7; have HCN7 := Lib.hid hcn7; have HAQ7 := Lib.hid hsea7
        have HRC7 : Hid (k7 = r7.2.2.length) := Lib.hid (by rw [← hre7, recsL_len])
        have hlen7 : n7 = r7.1.ser.length := by rw [← hse7, sers_length]
        have HLN7 := Lib.hid hlen7
        clear hse7 hfl7 her7 hcn7 hsea7 hre7 hlen7 HD7
        have hx := HR7.out
        rw [HE5R.out, runM3] at hx
        have hx2 := hx.trans (if_pos HM.out)
        have hm7 : m7 = 0 := by
          have hq := HAQ7.out
          rw [hx2] at hq
          rw [← sers_length aq7 m7, hq]
          exact congrArg List.length (Tr.gone_ask _ _ _)
        subst hm7
        clear hx hx2
        obtain ⟨hb7, hX7, hY7⟩ := two_laid w7 (.slice A7 n7 c7) (.int .i64 fl7) (.int .i64 er7) (.int .i64 cn7) (.slice B7 0 d7)
        obtain ⟨W7, hW7⟩ : ∃ W7, W7 = (w7.alloc (.cells #[.slice A7 n7 c7, .int .i64 fl7] 28)).alloc (.cells #[.int .i64 er7, .int .i64 cn7, .slice B7 0 d7] 31) := ⟨_, rfl⟩
        rw [← hW7] at hb7 hX7 hY7
        obtain ⟨b7, hbb7⟩ : ∃ b7, b7 = w7.heap.size := ⟨_, rfl⟩
        rw [← hbb7] at hX7 hY7
        have HX7 := Lib.hid hX7; have HY7 := Lib.hid hY7; have HBL7 := Lib.hid hbl7
        have HB7 := Lib.hid (below_step hbl7 hb7)
        have HS7 := Lib.hid (hs7.later hb7); have HSA7 := Lib.hid (hsa7.later hb7)
        clear hX7 hY7 hbl7 hb7 hs7 hsa7
        have HB57 := Lib.hid (below_step HB6.out HB7.out)
        have HY47 := Lib.hid (heap_keep HY45.out HB57.out)
        have HSA47 := Lib.hid (HSA45.out.later HB57.out)
        have HW7 := Lib.hid (below_step HW6.out HB7.out)
        have HY57 := Lib.hid (heap_keep HY5.out HB57.out); have HX57 := Lib.hid (heap_keep HX5.out HB57.out)
        have HY67 := Lib.hid (heap_keep HY6.out HB7.out)
        have HSB7 := Lib.hid (heap_keep (heap_keep HS4'.out.sk HB5.out) HB57.out)
        go_upto_region 18 with (fail)
        rw [← hW7, ← hbb7]
        clear hW7 hbb7 HS4' HX4 HY4 HY45 HSA4 HSA45 HR4 HR5 HR6 HR7 HER4 HER5 HER6 HER7 HCN4 HCN5 HCN6 HCN7 HE4 HE5 HE6 HE7 HAQ4 HAQ5 HAQ6 HAQ7 HRC4 HRC5 HRC6 HRC7 HLN4 HLN5 HLN6 HLN7 HS5 HS6 HS7 HSA5 HSA6 HSA7 HF5 HOK5 HE5R HM HB4 HB5 HB6 HB57 HY5' HW5 HW6 HOX HF0 HX5 HX6 HX7 HY5 HY6
        go_wp2_with fail
        go_loopw [25, 26] (fun cnt i wr => ∃ k : Nat, k ≤ m4 ∧ i = .int .i64 k ∧ cnt = .int .i64 ((sumSn aq4 k : Nat) : Int) ∧ sumSn aq4 k ≤ 1000 * k ∧ Below W7.heap.size W7 wr) (fun _ i _ => m4 - (intOf i).toNat)
        case atStart => exact ⟨0, by omega, rfl, rfl, by simp [sumSn], Below.refl _ _⟩
        case round =>
          obtain ⟨k2, hk, rfl, rfl, hsum, hbk⟩ := hrel
          have HBK := Lib.hid hbk
          have x0 : wr.cell? ⟨b4 + 1, 2, none⟩ = some (.slice B4 m4 d4) := cell_of_row _ _ _ _ _ _ (heap_keep HY47.out hbk)
          by_cases hlt : k2 < m4
          · have hf := HSA47.out.few
            have hsf := (HSA47.out.each k2 hlt).sfew
            obtain ⟨bd, rfl, -, cc⟩ := HSA47.out.row.at_ hbk hlt
            have y1 : wr.cell? ⟨(bd.add (k2 * 3)).block, (bd.add (k2 * 3)).off + 1, none⟩ = some (.slice (aq4 k2).sa (aq4 k2).sn (aq4 k2).sc) := cc 1 (by omega) (by omega)
            have hnx : sumSn aq4 (k2 + 1) = sumSn aq4 k2 + (aq4 k2).sn := rfl
            have HNX := Lib.hid hnx
            generalize sumSn aq4 k2 = s at hsum HNX ⊢
            have HLE : Hid (s + (aq4 k2).sn ≤ 1000 * (k2 + 1)) := Lib.hid (by omega)
            generalize (aq4 k2).sn = sn at y1 hsf HNX HLE
            have i1 : (0 : Int) ≤ (k2 : Int) := Int.natCast_nonneg _
            have i2 : (k2 : Int) < (m4 : Int) := by omega
            have d1 : decide ((k2 : Int) < (m4 : Int)) = true := decide_eq_true i2
            have i4 : wrap64 ((s : Int) + (sn : Int)) = ((s + sn : Nat) : Int) := IntWalk.wrap64_in _ (by omega)
            have HI4 := Lib.hid i4
            clear hnx hsum hsf hbk cc i4
            have i4 : wrap64 ((s : Int) + (sn : Int)) = ((s + sn : Nat) : Int) := HI4.out
            go_wp2_with fail
            go_roundw
            case rel => exact ⟨k2 + 1, by omega, by go_num, by rw [HNX.out]; go_num, by rw [HNX.out]; exact HLE.out, HBK.out⟩
            case measure => simp [intOf]; omega
          · obtain rfl : k2 = m4 := by omega
            have d1 : decide ((k2 : Int) < (k2 : Int)) = false := decide_eq_false (by omega)
            obtain ⟨hN1, hN2, hN3, hN4⟩ := HN5.out
            have y0 : wr.cell? ⟨b5 + 1, 1, none⟩ = some (.int .i64 ((sumSn aq4 k2 : Nat) : Int)) := by
              have h := cell_of_row _ _ 1 _ _ _ (heap_keep HY57.out hbk)
              rw [hN4, ← hN1]; exact h
            have y1 : wr.cell? ⟨b6 + 1, 0, none⟩ = some (.int .i64 0) := cell_of_row _ _ _ _ _ _ (heap_keep HY67.out hbk)
            have y2 : wr.cell? ⟨b6 + 1, 1, none⟩ = some (.int .i64 0) := cell_of_row _ _ _ _ _ _ (heap_keep HY67.out hbk)
            have y3 : wr.cell? ⟨b7 + 1, 2, none⟩ = some (.slice B7 0 d7) := cell_of_row _ _ _ _ _ _ (heap_keep HY7.out hbk)
            have y4 : wr.cell? ⟨b5, 0, none⟩ = some (.slice A5 n' c5) := by rw [← hN3]; exact cell_of_row _ _ _ _ _ _ (heap_keep HX57.out hbk)
            have y5 : wr.cell? ⟨sb, 0, none⟩ = some (.slice A' n' c') := cell_of_row _ _ _ _ _ _ (heap_keep HSB7.out hbk)
            have HFIN := Lib.hid (below_step HW7.out HBK.out)
            clear hN1 hN3 hN4 hbk hsum hk hlt
            generalize sumSn aq4 k2 = s at y0 ⊢
            subst hN2
            go_wp2_with fail
            go_ret
            exact ⟨rfl, HFIN.out⟩
      · rw [if_neg hm] at hr4 hr5
        obtain rfl : er4 = 1 := by rw [HER4.out, hr4]
        obtain rfl : er5 = 1 := by rw [HER5.out, hr5]
        clear hr4 hr5 hm
        go_upto_region 15 with (fail)
        rw [← hW5, ← hbb5]
        clear hW5 hbb5
        have x0 : W5.cell? ⟨b4 + 1, 0, none⟩ = some (.int .i64 1) := cell_of_row _ _ _ _ _ _ HY45.out
        have x1 : W5.cell? ⟨b5 + 1, 0, none⟩ = some (.int .i64 1) := cell_of_row _ _ _ _ _ _ HY5.out
        go_wp2_with fail
        go_ret
        exact ⟨rfl, HW5.out⟩
set_option maxRecDepth 100000 in
theorem truthGone_walk {H : Type} {enc : TypeId × Value → H} {r : Reach} {b0 : Nat} {a : Value} {d : DataW H} {p : List MemPlace} {r2 : Reach} {b2 : Nat} {v2 : Value} {d2 : DataW H} {p2 : List MemPlace} (w : World)
    (hv : Value.okWide Try.prog w r b0 22 a) (h : DataW.Trod enc Try.prog w 0 (fun _ => true) true 22 a d p) (hv2 : Value.okWide Try.prog w r2 b2 36 v2) (h2 : DataW.Trod enc Try.prog w 0 (fun _ => true) true 36 v2 d2 p2)
    (lo : Int) (_hlo : (Lit.int .i64 lo).wf = true) (hi : Int) (_hhi : (Lit.int .i64 hi).wf = true) :
    Calls Try.prog 7 #[a, v2, .int .i64 lo, .int .i64 hi] w fun e w' => e = .returned (.bool true) ∧ Below w.heap.size w w' := by
  obtain ⟨A, n, c, o, rfl, hn, hA, ho⟩ := open_ops hv h
  obtain ⟨B, m, cm, g, rfl, h3, h4, h5, -, hB⟩ := open_mats hv2 h2
  exact truthGone_walk0 w A n c hn o hA ho B m cm g (Nat.le_trans h3 h4) hB h5 lo hi
end Go.Proofs.Ytidfanmfibbiiaa
