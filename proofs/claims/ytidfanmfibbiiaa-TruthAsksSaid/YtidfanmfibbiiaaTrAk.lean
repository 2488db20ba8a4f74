/-
  TruthAsks: the walk.
-/
import Derived.Test.YtidfanmfibbiiaaTrAm
namespace Go.Proofs.Ytidfanmfibbiiaa
open Go.RowKit
theorem Row.sub {k : Nat} {x : Nat → Nat → Value} {w : World} {bd : Addr} {n i : Nat} (h : Row k x w (some bd) n) (hi : i < n) : Row k (fun _ => x i) w (some (bd.add (i * k))) 1 := fun _ => by
  obtain ⟨ad, e, hlt, hc⟩ := h (by omega)
  cases e
  refine ⟨bd.add (i * k), rfl, by rw [addr_block]; exact hlt, fun i2 hi2 j hj => ?_⟩
  obtain rfl : i2 = 0 := by omega
  rw [Go.Deep.add_add, Nat.zero_mul, Nat.zero_add]
  exact hc i hi j hj
set_option maxRecDepth 100000 in
set_option maxHeartbeats 8000000 in
theorem truthAsks_walk0 (W : World) (A : Option Addr) (n c : Nat) (hn : n ≤ maxLen) (o : Nat → OpAt) (hA : Row 7 (fun i => (o i).cell) W A n) (ho : ∀ i, i < n → OpIn W (o i)) (ma : Option Addr) (mn mc : Nat) (mm : Nat → Mat) (hmn : mn ≤ maxLen) (hx : Row 3 (mx mm) W ma mn) (hxz : ma = none → mn = 0 ∧ mc = 0) :
    Calls Try.prog 4 #[.slice A n c, .slice ma mn mc] W fun e w' => e = .returned (.bool true) ∧ Below W.heap.size W w' := by
  have HA := Lib.hid hA; have HO := Lib.hid ho; have HX := Lib.hid hx; have HXZ := Lib.hid hxz
  have HWO := Lib.hid (works_any W)
  have HFW := Lib.hid (fun U (hb : Below W.heap.size W U) => FewOps_any A n c hn o U (hA.later hb) (fun i hi => (ho i hi).later hb))
  have HFX := Lib.hid (fun U (hb : Below W.heap.size W U) => MFew_any ma mn mc hmn mm U (hx.later hb))
  clear hA ho hx hxz
  go_enter Try.func4, Try.ntmps4
  go_wp2_with fail
  refine HWO.out.mono ?_; rintro e w1 ⟨rfl, hb1⟩
  have HB1 := Lib.hid hb1; clear hb1 HWO
  go_wp2_with fail
  refine (HFW.out _ HB1.out).mono ?_; rintro e w2 ⟨rfl, hb2⟩
  have HB2 := Lib.hid (below_step HB1.out hb2); clear hb2 HFW
  cases hfew : fewOs o n
  · clear hfew
    go_wp2_with fail
    go_ret
    exact ⟨rfl, HB2.out⟩
  obtain ⟨hn40, hfo⟩ := fewOs_yes hfew
  have HSM := Lib.hid (fun i (hi : i < n) => (HO.out i hi).sm (hfo i hi))
  clear hfew hfo HO
  go_wp2_with fail
  refine (HFX.out _ HB2.out).mono ?_; rintro e w2x ⟨rfl, hb2⟩
  have HB2x := Lib.hid (below_step HB2.out hb2); clear hb2 HFX HB2
  cases hfew : La.few (Ma.lab mm) mn
  · clear hfew
    go_wp2_with fail
    go_ret
    exact ⟨rfl, HB2x.out⟩
  have HXF := Lib.hid (La.few_yes hfew)
  clear hfew
  go_wp2_with fail
  obtain ⟨w3, hw3⟩ : ∃ w3, w3 = w2x.alloc (.cells #[.slice none 0 0, .int .i64 0] 28) := ⟨_, rfl⟩
  obtain ⟨sb, hsb⟩ : ∃ sb, sb = w2x.heap.size := ⟨_, rfl⟩
  have hb3 : Below w2x.heap.size w2x w3 := by rw [hw3]; exact (Below.refl _ _).alloc (Nat.le_refl _) _
  have HST : Hid (StAt W w3 sb none 0 0 q0 0) := Lib.hid ⟨below_step HB2x.out hb3, by rw [hsb]; exact HB2x.out.size, by rw [hw3, hsb]; exact heap_alloc_new w2x _, ⟨World.ownsRow_nil _ _ _ _, by omega, fun i hi => by omega, fun i j hi => by omega⟩, Tr.ok_empty⟩
  rw [← hw3, ← hsb]
  clear hw3 hsb hb3
  go_loopw [8] (fun i wr => ∃ (k : Nat) (A' : Option Addr) (n' c' : Nat) (q : Nat → SerAt) (fl : Int), k ≤ n ∧ i = .int .i64 k ∧ StAt W wr sb A' n' c' q fl) (fun i _ => n - (intOf i).toNat)
  case atStart => exact ⟨0, none, 0, 0, q0, 0, by omega, rfl, HST.out⟩
  case round =>
    obtain ⟨k, A', n', c', q, fl, hkn, rfl, hst⟩ := hrel
    have HS := Lib.hid hst; clear hst HST
    have i0 : (0 : Int) ≤ (k : Int) := Int.natCast_nonneg _
    by_cases hlt : k < n
    · have i1 : (k : Int) < (n : Int) := by omega
      have d1 : decide ((k : Int) < (n : Int)) = true := decide_eq_true i1
      obtain ⟨ad, rfl, cc0, cc⟩ := HA.out.at_ HS.out.bel hlt
      obtain ⟨hf1, hf2⟩ := ok_few HS.out.ok
      have HDO := Lib.hid (fun U (hb : Below wr.heap.size wr U) => Do_any A' n' c' q fl 3 (o k) U (HS.out.far hb).srs (by omega) (fun i hi => Nat.le_trans (hf2 i hi) (by decide)) ((HSM.out k hlt).later (HS.out.far hb).bel))
      have HOK := Lib.hid (Tr.ok_run par_good HS.out.ok (o k).op 3)
      generalize hr : Tr.run par ⟨sers q n', fl⟩ (o k).op 3 = r at *
      clear hr
      go_wp2_with fail
      refine plain_T (fun U => Below wr.heap.size wr U) [6, 7, 8, 9, 10] (by kernel_rfl) ?_
      have HD : Hid (Below wr.heap.size wr wr.drew) := Lib.hid (Below.refl _ _).drew
      generalize wr.drew = wd at HD ⊢
      have HOC : Hid (∀ U, Below wr.heap.size wr U → U.cell? (ad.add (k * 7)) = some (.int .i64 (o k).kind) ∧ U.cell? ⟨(ad.add (k * 7)).block, (ad.add (k * 7)).off + 1, none⟩ = some (.slice (o k).la (o k).ln (o k).lc) ∧ U.cell? ⟨(ad.add (k * 7)).block, (ad.add (k * 7)).off + 2, none⟩ = some (.slice (o k).ma (o k).mn (o k).mc) ∧ U.cell? ⟨(ad.add (k * 7)).block, (ad.add (k * 7)).off + 3, none⟩ = some (.int .i64 (o k).t) ∧ U.cell? ⟨(ad.add (k * 7)).block, (ad.add (k * 7)).off + 4, none⟩ = some (.int .i64 (o k).hi) ∧ U.cell? ⟨(ad.add (k * 7)).block, (ad.add (k * 7)).off + 5, none⟩ = some (.int .u64 (o k).v) ∧ U.cell? ⟨(ad.add (k * 7)).block, (ad.add (k * 7)).off + 6, none⟩ = some (.int .i64 (o k).gen)) := Lib.hid (fun U hU =>
        ⟨cell_keep (cc0 (by decide)) hU, cell_keep (cc 1 (by omega) (by omega)) hU, cell_keep (cc 2 (by omega) (by omega)) hU, cell_keep (cc 3 (by omega) (by omega)) hU, cell_keep (cc 4 (by omega) (by omega)) hU, cell_keep (cc 5 (by omega) (by omega)) hU, cell_keep (cc 6 (by omega) (by omega)) hU⟩)
      clear cc0 cc
      refine wpAnyT_pick (S := (fun U => Below wr.heap.size wr U)) (by kernel_rfl) Only.panic Only.keepsIn (w := wd) HD.out [0, 1, 2, 3, 4] 6 _ _ (by kernel_rfl) ?_
      refine PickT.value (d := some 40) (.agg #[.slice A' n' c', .int .i64 fl]) rfl rfl (by kernel_rfl) (fun U hU => (by have hy := heap_keep HS.out.sk hU; have h0 : U.cell? ⟨sb, 0, none⟩ = some (.slice A' n' c') := cell_of_row _ _ _ _ _ _ hy; have h1 : U.cell? ⟨sb, 1, none⟩ = some (.int .i64 fl) := cell_of_row _ _ _ _ _ _ hy; go_simp)) ?_
      refine PickT.value (d := some 41) (.slice (some ad) n c) rfl rfl (by kernel_rfl) (fun U hU => (by go_simp)) ?_
      refine PickT.value (d := some 42) (.int .i64 (k : Int)) rfl rfl (by kernel_rfl) (fun U hU => (by go_simp)) ?_
      refine PickT.value (d := some 43) (.pointer (some (ad.add (k * 7)))) rfl rfl (by kernel_rfl) (fun U hU => (by go_simp)) ?_
      refine PickT.value (d := some 44) (.agg #[.int .i64 (o k).kind, .slice (o k).la (o k).ln (o k).lc, .slice (o k).ma (o k).mn (o k).mc, .int .i64 (o k).t, .int .i64 (o k).hi, .int .u64 (o k).v, .int .i64 (o k).gen]) rfl rfl (by kernel_rfl) (fun U hU => (by obtain ⟨h0, h1, h2, h3, h4, h5, h6⟩ := HOC.out U hU; go_simp)) ?_
      simp only [PickT, Act.put, List.setIfInBounds_toArray, List.set_cons_zero, List.set_cons_succ]
      refine wpAnyT_one (i := 5) (by kernel_rfl) rfl (by kernel_rfl) ?_
      intro K hK
      unfold Oper.wp
      go_simp
      refine (HDO.out _ HD.out).mono ?_; rintro e w9 ⟨A9, n9, c9, q9, B9, m9, d9, aq9, C9, k9, f9, rr9, rfl, -, hse9, -, -, -, -, hb9, hrw9, -⟩
      have HB9 := Lib.hid (below_step HD.out hb9)
      have HRW9 := Lib.hid (hrw9.from_ (Nat.le_trans HS.out.bel.size HD.out.size)); have HSE9 := Lib.hid hse9
      clear hb9 hrw9 hse9 HDO HOC
      refine hK _ _ (fun _ => HB9.out) ?_
      clear hK K
      refine wpAnyT_turn (fun _ => True) [] (by kernel_rfl) ?_
      refine wpAnyT_pick (S := (fun _ => True)) (by kernel_rfl) Only.panic Only.keepsIn (w := w9) True.intro [6, 7, 8, 9] 1 _ _ (by kernel_rfl) ?_
      refine PickT.value (d := some 39) (.tuple #[.agg #[.slice A9 n9 c9, .int .i64 r.1.floor], .agg #[.int .i64 r.2.1.err, .int .i64 r.2.1.n, .slice B9 m9 d9], .slice C9 k9 f9]) rfl rfl (by kernel_rfl) (fun U hU => (by go_simp)) ?_
      refine PickT.value (d := some 46) (.agg #[.slice A9 n9 c9, .int .i64 r.1.floor]) rfl rfl (by kernel_rfl) (fun U hU => (by go_simp)) ?_
      refine PickT.value (d := some 47) (.agg #[.int .i64 r.2.1.err, .int .i64 r.2.1.n, .slice B9 m9 d9]) rfl rfl (by kernel_rfl) (fun U hU => (by go_simp)) ?_
      refine PickT.value (d := some 48) (.slice C9 k9 f9) rfl rfl (by kernel_rfl) (fun U hU => (by go_simp)) ?_
      simp only [PickT, Act.put, List.setIfInBounds_toArray, List.set_cons_zero, List.set_cons_succ]
      have a0 : w9.cell? ⟨sb, 0, none⟩ = some (.slice A' n' c') := cell_of_row _ _ _ _ _ _ (heap_keep HS.out.sk HB9.out)
      have a1 : w9.cell? ⟨sb, 1, none⟩ = some (.int .i64 fl) := cell_of_row _ _ _ _ _ _ (heap_keep HS.out.sk HB9.out)
      have b0 : w9.frozen? ⟨sb, 0, none⟩ = false := frozen_of_row _ _ _ _ _ (heap_keep HS.out.sk HB9.out)
      have b1 : w9.frozen? ⟨sb, 1, none⟩ = false := frozen_of_row _ _ _ _ _ (heap_keep HS.out.sk HB9.out)
      refine wpAnyT_one (i := 10) (by kernel_rfl) rfl (by kernel_rfl) ?_
      intro K hK
      unfold Oper.wp
      go_simp
      clear a0 a1 b0 b1
      refine hK _ _ (fun _ => True.intro) ?_
      clear hK K
      have HN := Lib.hid (HS.out.next HB9.out HRW9.out (by rw [HSE9.out]; exact HOK.out))
      clear HRW9 HSE9 HOK HB9
      refine wpAnyT_done (by kernel_rfl) ?_ _
      refine only_mk ?_
      go_wp2_with fail
      go_roundw
      case rel => exact ⟨k + 1, A9, n9, c9, q9, r.1.floor, by omega, by go_num, HN.out⟩
      case measure => simp [intOf]; omega
    · have d1 : decide ((k : Int) < (n : Int)) = false := decide_eq_false (by omega)
      clear HA HSM i0
      have HF0 := Lib.hid (ok_few HS.out.ok)
      have HOM : Hid (∀ U, OpSm U (opM 3 none 0 0 noMat 0 1125899906842624)) := Lib.hid (fun U => opM_sm 3 0 1125899906842624 (no_mats U _) (fun _ => ⟨rfl, rfl⟩) (Nat.zero_le _) (fun i hi => absurd hi (Nat.not_lt_zero i)))
      have HOX : Hid (∀ U, Below W.heap.size W U → OpSm U (opM 3 ma mn mc mm 0 1125899906842624)) := Lib.hid (fun U hb => opM_sm 3 0 1125899906842624 (HX.out.later hb) HXZ.out HXF.out.1 HXF.out.2)
      obtain ⟨r4, hr4⟩ : ∃ r, r = Tr.run par ⟨sers q n', fl⟩ (opM 3 none 0 0 noMat 0 1125899906842624).op 3 := ⟨_, rfl⟩
      have HD4 := Lib.hid (Do_any A' n' c' q fl 3 (opM 3 none 0 0 noMat 0 1125899906842624) wr HS.out.srs (by have := HF0.out.1; omega) (fun i hi => Nat.le_trans (HF0.out.2 i hi) (by decide)) (HOM.out wr))
      rw [← hr4] at HD4
      have HR4 := Lib.hid hr4
      clear hr4
      have s0 : wr.cell? ⟨sb, 0, none⟩ = some (.slice A' n' c') := cell_of_row _ _ _ _ _ _ HS.out.sk
      have s1 : wr.cell? ⟨sb, 1, none⟩ = some (.int .i64 fl) := cell_of_row _ _ _ _ _ _ HS.out.sk
      clear HX HXZ HXF
      go_wp2_with fail
      clear s0 s1 d1 hlt
      refine HD4.out.mono ?_; rintro e w4 ⟨A4, n4, c4, q4, B4, m4, d4, aq4, C4, k4, f4, rr4, rfl, hs4, hse4, hsa4, hsea4, -, hre4, hbl4, -, -⟩
      obtain ⟨fl4, hfl4⟩ : ∃ x, x = r4.1.floor := ⟨_, rfl⟩
      obtain ⟨er4, her4⟩ : ∃ x, x = r4.2.1.err := ⟨_, rfl⟩
      obtain ⟨cn4, hcn4⟩ : ∃ x, x = r4.2.1.n := ⟨_, rfl⟩
      rw [← hfl4, ← her4, ← hcn4]
      have HE4 := Lib.hid (st_eq hse4 hfl4)
      have HER4 := Lib.hid her4; have HCN4 := Lib.hid hcn4; have HAQ4 := Lib.hid hsea4
      have HRC4 : Hid (k4 = r4.2.2.length) := Lib.hid (by rw [← hre4, recsL_len])
      have hlen4 : n4 = r4.1.ser.length := by rw [← hse4, sers_length]
      have HLN4 := Lib.hid hlen4
      clear hse4 hfl4 her4 hcn4 hsea4 hre4 hlen4 HD4
      have s0 : w4.cell? ⟨sb, 0, none⟩ = some (.slice A' n' c') := cell_of_row _ _ _ _ _ _ (heap_keep HS.out.sk hbl4)
      have s1 : w4.cell? ⟨sb, 1, none⟩ = some (.int .i64 fl) := cell_of_row _ _ _ _ _ _ (heap_keep HS.out.sk hbl4)
      have sl : sb < w4.heap.size := (Array.getElem?_eq_some_iff.1 (heap_keep HS.out.sk hbl4)).1
      have hr4 := HR4.out
      rw [runM3, if_pos ⟨rfl, by decide⟩] at hr4
      obtain rfl : er4 = 0 := by rw [HER4.out, hr4]
      have HA4 : Hid (sers aq4 m4 = Tr.askS par ((List.range 0).map noMat) 0 1125899906842624 (sers q n')) := Lib.hid (by rw [HAQ4.out, hr4])
      clear hr4
      obtain ⟨hb4, hX4, hY4⟩ := two_laid w4 (.slice A4 n4 c4) (.int .i64 fl4) (.int .i64 0) (.int .i64 cn4) (.slice B4 m4 d4)
      obtain ⟨W4, hW4⟩ : ∃ W4, W4 = (w4.alloc (.cells #[.slice A4 n4 c4, .int .i64 fl4] 28)).alloc (.cells #[.int .i64 0, .int .i64 cn4, .slice B4 m4 d4] 31) := ⟨_, rfl⟩
      rw [← hW4] at hb4 hX4 hY4
      obtain ⟨b4, hbb4⟩ : ∃ b4, b4 = w4.heap.size := ⟨_, rfl⟩
      rw [← hbb4] at hX4 hY4
      have HX4 := Lib.hid hX4; have HY4 := Lib.hid hY4; have HBL4 := Lib.hid hbl4
      have HB4 := Lib.hid (below_step hbl4 hb4)
      have HS4 := Lib.hid (hs4.later hb4); have HSA4 := Lib.hid (hsa4.later hb4)
      clear hX4 hY4 hbl4 hb4 hs4 hsa4
      have HS4' := Lib.hid (HS.out.far HB4.out)
      obtain ⟨r5, hr5⟩ : ∃ r, r = Tr.run par ⟨sers q n', fl⟩ (opM 3 ma mn mc mm 0 1125899906842624).op 3 := ⟨_, rfl⟩
      have HD5 := Lib.hid (Do_any A' n' c' q fl 3 (opM 3 ma mn mc mm 0 1125899906842624) W4 HS4'.out.srs (by have := HF0.out.1; omega) (fun i hi => Nat.le_trans (HF0.out.2 i hi) (by decide)) (HOX.out W4 HS4'.out.bel))
      rw [← hr5] at HD5
      have HR5 := Lib.hid hr5
      clear hr5
      go_wp2_with fail
      rw [← hW4, ← hbb4]
      clear hW4 hbb4 s0 s1 sl
      refine HD5.out.mono ?_; rintro e w5 ⟨A5, n5, c5, q5, B5, m5, d5, aq5, C5, k5, f5, rr5, rfl, hs5, hse5, hsa5, hsea5, -, hre5, hbl5, -, -, hmd5⟩
      obtain ⟨fl5, hfl5⟩ : ∃ x, x = r5.1.floor := ⟨_, rfl⟩
      obtain ⟨er5, her5⟩ : ∃ x, x = r5.2.1.err := ⟨_, rfl⟩
      obtain ⟨cn5, hcn5⟩ : ∃ x, x = r5.2.1.n := ⟨_, rfl⟩
      rw [← hfl5, ← her5, ← hcn5]
      have HE5 := Lib.hid (st_eq hse5 hfl5)
      have HER5 := Lib.hid her5; have HCN5 := Lib.hid hcn5; have HAQ5 := Lib.hid hsea5
      have HRC5 : Hid (k5 = r5.2.2.length) := Lib.hid (by rw [← hre5, recsL_len])
      have hlen5 : n5 = r5.1.ser.length := by rw [← hse5, sers_length]
      have HLN5 := Lib.hid hlen5
      clear hse5 hfl5 her5 hcn5 hsea5 hre5 hlen5 HD5
      obtain ⟨hb5, hX5, hY5⟩ := two_laid w5 (.slice A5 n5 c5) (.int .i64 fl5) (.int .i64 er5) (.int .i64 cn5) (.slice B5 m5 d5)
      obtain ⟨W5, hW5⟩ : ∃ W5, W5 = (w5.alloc (.cells #[.slice A5 n5 c5, .int .i64 fl5] 28)).alloc (.cells #[.int .i64 er5, .int .i64 cn5, .slice B5 m5 d5] 31) := ⟨_, rfl⟩
      rw [← hW5] at hb5 hX5 hY5
      obtain ⟨b5, hbb5⟩ : ∃ b5, b5 = w5.heap.size := ⟨_, rfl⟩
      rw [← hbb5] at hX5 hY5
      have HX5 := Lib.hid hX5; have HY5 := Lib.hid hY5; have HBL5 := Lib.hid hbl5
      have HB5 := Lib.hid (below_step hbl5 hb5)
      have HS5 := Lib.hid (hs5.later hb5); have HSA5 := Lib.hid (hsa5.later hb5)
      clear hX5 hY5 hbl5 hb5 hs5 hsa5
      have HW5 := Lib.hid (below_step HS4'.out.bel HB5.out)
      have HY45 := Lib.hid (heap_keep HY4.out HB5.out)
      have HSA45 := Lib.hid (HSA4.out.later HB5.out)
      have HSK5 := Lib.hid (heap_keep HS4'.out.sk HB5.out); have HSS5 := Lib.hid (HS4'.out.srs.later HB5.out)
      have hr5 := HR5.out
      rw [runM3] at hr5
      by_cases hm : par.mok ((List.range mn).map mm) = true ∧ (0 : Int) ≤ 1125899906842624
      · rw [if_pos hm] at hr5
        obtain rfl : er5 = 0 := by rw [HER5.out, hr5]
        have HA5 : Hid (sers aq5 m5 = Tr.askS par ((List.range mn).map mm) 0 1125899906842624 (sers q n')) := Lib.hid (by rw [HAQ5.out, hr5])
        have HGR := Lib.hid (gr_start HS.out.ok HA4.out HA5.out)
        have HM4 := Lib.hid (asks_cnt HS.out.ok HA4.out)
        have HON := Lib.hid (fun i (hi : i < m4) => asks_one HS.out.ok HA4.out hi)
        have HMD := Lib.hid hmd5
        have hf20 := HF0.out.1
        have hm4f := HSA45.out.few
        have hm5f := HSA5.out.few
        clear hr5 hm hmd5
        go_upto_region 14 with (fail)
        rw [← hW5, ← hbb5]
        have y0 : W5.cell? ⟨b4 + 1, 0, none⟩ = some (.int .i64 0) := cell_of_row _ _ _ _ _ _ HY45.out
        have y1 : W5.cell? ⟨b5 + 1, 0, none⟩ = some (.int .i64 0) := cell_of_row _ _ _ _ _ _ HY5.out
        clear hW5 hbb5 HS4' HX4 HY4 HSA4 HR4 HR5 HER4 HER5 HCN4 HCN5 HE4 HE5 HAQ4 HAQ5 HRC4 HRC5 HLN4 HLN5 HS4 HS5 HB4 HB5 HOX HOM HF0 HX5 HA4 HA5
        go_wp2_with fail
        clear y0 y1
        go_loopw [15, 16] (fun cnt i wr => ∃ j : Nat, j ≤ n' ∧ i = .int .i64 j ∧ cnt = .int .i64 ((cntSn q j : Nat) : Int) ∧ Below W5.heap.size W5 wr) (fun _ i _ => n' - (intOf i).toNat)
        case atStart => exact ⟨0, by omega, rfl, rfl, Below.refl _ _⟩
        case round =>
          obtain ⟨j, hj, rfl, rfl, hbk⟩ := hrel
          have HBK := Lib.hid hbk
          have s0 : wr.cell? ⟨sb, 0, none⟩ = some (.slice A' n' c') := cell_of_row _ _ _ _ _ _ (heap_keep HSK5.out hbk)
          by_cases hlt : j < n'
          · obtain ⟨ad, rfl, -, cc⟩ := HSS5.out.row.at_ hbk hlt
            have y1 : wr.cell? ⟨(ad.add (j * 3)).block, (ad.add (j * 3)).off + 1, none⟩ = some (.slice (q j).sa (q j).sn (q j).sc) := cc 1 (by omega) (by omega)
            have hnx : cntSn q (j + 1) = cntSn q j + (if 0 < (q j).sn then 1 else 0) := rfl
            have hle := cnt_le q j
            have HNX := Lib.hid hnx
            generalize cntSn q j = s at hle HNX ⊢
            generalize (q j).sn = sn at y1 HNX
            have j0 : (0 : Int) ≤ (j : Int) := Int.natCast_nonneg _
            have i2 : (j : Int) < (n' : Int) := by omega
            have d1 : decide ((j : Int) < (n' : Int)) = true := decide_eq_true i2
            have i4 : wrap64 ((s : Int) + 1) = (s : Int) + 1 := IntWalk.wrap64_in _ (by omega)
            clear hnx hbk cc
            by_cases h0 : 0 < sn
            · have d2 : decide ((0 : Int) < (sn : Int)) = true := decide_eq_true (by omega)
              have d3 : decide (0 < sn) = true := decide_eq_true h0
              rw [if_pos h0] at HNX
              go_wp2_with fail
              go_roundw
              case rel => exact ⟨j + 1, by omega, by go_num, by rw [HNX.out]; go_num, HBK.out⟩
              case measure => simp [intOf]; omega
            · obtain rfl : sn = 0 := by omega
              rw [if_neg h0] at HNX
              clear h0
              go_wp2_with fail
              go_roundw
              case rel => exact ⟨j + 1, by omega, by go_num, by rw [HNX.out]; go_num, HBK.out⟩
              case measure => simp [intOf]; omega
          · obtain rfl : j = n' := by omega
            have d1 : decide ((j : Int) < (j : Int)) = false := decide_eq_false (by omega)
            obtain ⟨wy, hwy⟩ : ∃ wy, wy = wr := ⟨_, rfl⟩
            rw [← hwy] at HBK s0 ⊢
            have HM4 := Lib.hid HM4.out.symm
            rw [HM4.out]
            clear hwy hbk HM4
            go_wp2_with fail
            clear d1 hlt s0
            go_loopw [17, 18, 19] (fun kk i _ wr => ∃ k2 i2 : Nat, i2 ≤ m4 ∧ k2 ≤ m5 ∧ kk = .int .i64 k2 ∧ i = .int .i64 i2 ∧ Gr (labsL aq5 m5) (labsL aq4 m4) k2 i2 ∧ Below W5.heap.size W5 wr) (fun _ i _ _ => m4 - (intOf i).toNat)
            case atStart => exact ⟨0, 0, by omega, by omega, rfl, rfl, HGR.out, HBK.out⟩
            case round =>
              obtain ⟨k2, i2, hi, hk2, rfl, rfl, hgr, hbl⟩ := hrel
              have HG := Lib.hid hgr; have HBL := Lib.hid hbl
              have k0 : (0 : Int) ≤ (k2 : Int) := Int.natCast_nonneg _
              have i0 : (0 : Int) ≤ (i2 : Int) := Int.natCast_nonneg _
              have x2 : wr.cell? ⟨b4 + 1, 2, none⟩ = some (.slice B4 m4 d4) := cell_of_row _ _ _ _ _ _ (heap_keep HY45.out hbl)
              by_cases hlt : i2 < m4
              · obtain ⟨jj, hjj, hfi, hsn, hpos, hflo⟩ := HON.out i2 hlt
                have hse := HSA45.out.each i2 hlt
                obtain ⟨ad, rfl, a0, aa⟩ := HSA45.out.row.at_ hbl hlt
                obtain ⟨qd, rfl, -, qq⟩ := HSS5.out.row.at_ hbl hjj
                obtain ⟨sd, hsd, e0, -⟩ := hse.sams.at_ hbl hpos
                have e0 : wr.cell? sd = some (.int .i64 ((aq4 i2).s 0).t) := by
                  have h : wr.cell? (sd.add (0 * 2)) = some (.int .i64 ((aq4 i2).s 0).t) := e0 (by decide)
                  rw [Nat.zero_mul] at h
                  simpa [go_sem] using h
                have HXC : Hid (∀ U, Below wr.heap.size wr U → U.cell? ⟨b4 + 1, 2, none⟩ = some (.slice (some ad) m4 d4) ∧ U.cell? (ad.add (i2 * 3)) = some (.slice (aq4 i2).la (aq4 i2).ln (aq4 i2).lc) ∧ U.cell? ⟨(ad.add (i2 * 3)).block, (ad.add (i2 * 3)).off + 1, none⟩ = some (.slice (some sd) (aq4 i2).sn (aq4 i2).sc) ∧
                    U.cell? ⟨sb, 0, none⟩ = some (.slice (some qd) j c') ∧ U.cell? ⟨sb, 1, none⟩ = some (.int .i64 fl) ∧ U.cell? ⟨(qd.add (jj * 3)).block, (qd.add (jj * 3)).off + 1, none⟩ = some (.slice (q jj).sa (aq4 i2).sn (q jj).sc) ∧ U.cell? sd = some (.int .i64 ((aq4 i2).s 0).t) ∧ U.cell? ⟨b5 + 1, 2, none⟩ = some (.slice B5 m5 d5)) := Lib.hid (fun U hU => by
                  have hb := below_step HBL.out hU
                  refine ⟨cell_keep x2 hU, cell_keep (a0 (by decide)) hU, ?_, cell_of_row _ _ _ _ _ _ (heap_keep HSK5.out hb), cell_of_row _ _ _ _ _ _ (heap_keep HSK5.out hb), ?_, cell_keep e0 hU, cell_of_row _ _ _ _ _ _ (heap_keep HY5.out hb)⟩
                  · rw [← hsd]; exact cell_keep (aa 1 (by omega) (by omega)) hU
                  · rw [hsn]; exact cell_keep (qq 1 (by omega) (by omega)) hU)
                have HFD := Lib.hid (fun U (hb : Below W5.heap.size W5 U) => SFind_any (some qd) j c' q fl (aq4 i2).la (aq4 i2).ln (aq4 i2).lc hse.lnone (aq4 i2).f hse.lsize U (HSS5.out.later hb) (hse.labs.later hb))
                rw [hfi] at HFD
                have HSE := Lib.hid hse
                have i1 : (i2 : Int) < (m4 : Int) := by omega
                have i3 : (jj : Int) < (j : Int) := by omega
                have i5 : (0 : Int) ≤ (jj : Int) := Int.natCast_nonneg _
                have i6 : (0 : Int) < ((aq4 i2).sn : Int) := by omega
                have d1 : decide ((i2 : Int) < (m4 : Int)) = true := decide_eq_true i1
                have d2 : decide ((jj : Int) < (0 : Int)) = false := decide_eq_false (by omega)
                have d3 : decide (((aq4 i2).s 0).t < fl) = false := decide_eq_false (by omega)
                have HFL := Lib.hid hflo
                clear hfi hsn hse a0 aa qq e0 hsd hflo hbl hgr
                go_wp2_with fail
                clear x2
                refine plain_T (fun U => Below wr.heap.size wr U) [] (by kernel_rfl) ?_
                have HD : Hid (Below wr.heap.size wr wr.drew) := Lib.hid (Below.refl _ _).drew
                generalize wr.drew = wd at HD ⊢
                refine wpAnyT_pick (S := (fun U => Below wr.heap.size wr U)) (by kernel_rfl) Only.panic Only.keepsIn (w := wd) HD.out [0, 1, 2, 3, 4, 5, 6] 2 _ _ (by kernel_rfl) ?_
                refine PickT.value (d := some 106) (.agg #[.slice (some qd) j c', .int .i64 fl]) rfl rfl (by kernel_rfl) (fun U hU => (by obtain ⟨h0, h1, h2, h3, h4, h5, h6, h7⟩ := HXC.out U hU; go_simp)) ?_
                refine PickT.value (d := some 107) (.pointer (some ⟨b4 + 1, 2, none⟩)) rfl rfl (by kernel_rfl) (fun U hU => (by go_simp)) ?_
                refine PickT.value (d := some 108) (.slice (some ad) m4 d4) rfl rfl (by kernel_rfl) (fun U hU => (by obtain ⟨h0, h1, h2, h3, h4, h5, h6, h7⟩ := HXC.out U hU; go_simp)) ?_
                refine PickT.value (d := some 109) (.int .i64 (i2 : Int)) rfl rfl (by kernel_rfl) (fun U hU => (by go_simp)) ?_
                refine PickT.value (d := some 110) (.pointer (some (ad.add (i2 * 3)))) rfl rfl (by kernel_rfl) (fun U hU => (by go_simp)) ?_
                refine PickT.value (d := some 111) (.pointer (some (ad.add (i2 * 3)))) rfl rfl (by kernel_rfl) (fun U hU => (by go_simp)) ?_
                refine PickT.value (d := some 112) (.slice (aq4 i2).la (aq4 i2).ln (aq4 i2).lc) rfl rfl (by kernel_rfl) (fun U hU => (by obtain ⟨h0, h1, h2, h3, h4, h5, h6, h7⟩ := HXC.out U hU; go_simp)) ?_
                simp only [PickT, Act.put, List.setIfInBounds_toArray, List.set_cons_zero, List.set_cons_succ]
                refine wpAnyT_one (i := 7) (by kernel_rfl) rfl (by kernel_rfl) ?_
                intro K hK
                unfold Oper.wp
                go_simp
                refine (HFD.out _ (below_step HBL.out HD.out)).mono ?_; rintro e w9 ⟨rfl, hb9⟩
                have HB9 := Lib.hid (below_step HD.out hb9)
                clear hb9 HFD HD
                refine hK _ _ (fun _ => HB9.out) ?_
                clear hK K
                refine wpAnyT_pick (S := (fun U => Below wr.heap.size wr U)) (by kernel_rfl) Only.panic Only.keepsIn (w := w9) HB9.out [8] 0 _ _ (by kernel_rfl) ?_
                refine PickT.value (d := some 19) (.int .i64 (jj : Int)) rfl rfl (by kernel_rfl) (fun U hU => (by go_simp)) ?_
                simp only [PickT, Act.put, List.setIfInBounds_toArray, List.set_cons_zero, List.set_cons_succ]
                refine wpAnyT_done (by kernel_rfl) ?_ _
                refine only_mk ?_
                go_wp2_with fail
                refine plain_T (fun U => Below wr.heap.size wr U) [] (by kernel_rfl) ?_
                have HD : Hid (Below wr.heap.size wr w9.drew) := Lib.hid HB9.out.drew
                generalize w9.drew = we at HD ⊢
                refine wpAnyT_pick (S := (fun U => Below wr.heap.size wr U)) (by kernel_rfl) Only.panic Only.keepsIn (w := we) HD.out [0, 1, 2, 3, 4, 5, 6, 7, 8, 9, 10, 11, 12, 13, 14, 15, 16, 17, 18, 19, 20, 21, 22, 23, 24, 25, 26, 27, 28, 29, 30, 31, 32] 0 _ _ (by kernel_rfl) ?_
                refine PickT.value (d := some 114) (.int .i64 (jj : Int)) rfl rfl (by kernel_rfl) (fun U hU => (by go_simp)) ?_
                refine PickT.value (d := some 115) (.bool false) rfl rfl (by kernel_rfl) (fun U hU => (by go_simp)) ?_
                refine PickT.value (d := some 116) (.bool false) rfl rfl (by kernel_rfl) (fun U hU => (by go_simp)) ?_
                refine PickT.value (d := some 117) (.pointer (some ⟨b4 + 1, 2, none⟩)) rfl rfl (by kernel_rfl) (fun U hU => (by go_simp)) ?_
                refine PickT.value (d := some 118) (.slice (some ad) m4 d4) rfl rfl (by kernel_rfl) (fun U hU => (by obtain ⟨h0, h1, h2, h3, h4, h5, h6, h7⟩ := HXC.out U hU; go_simp)) ?_
                refine PickT.value (d := some 119) (.int .i64 (i2 : Int)) rfl rfl (by kernel_rfl) (fun U hU => (by go_simp)) ?_
                refine PickT.value (d := some 120) (.pointer (some (ad.add (i2 * 3)))) rfl rfl (by kernel_rfl) (fun U hU => (by go_simp)) ?_
                refine PickT.value (d := some 121) (.pointer (some ⟨(ad.add (i2 * 3)).block, (ad.add (i2 * 3)).off + 1, none⟩)) rfl rfl (by kernel_rfl) (fun U hU => (by go_simp)) ?_
                refine PickT.value (d := some 122) (.slice (some sd) (aq4 i2).sn (aq4 i2).sc) rfl rfl (by kernel_rfl) (fun U hU => (by obtain ⟨h0, h1, h2, h3, h4, h5, h6, h7⟩ := HXC.out U hU; go_simp)) ?_
                refine PickT.value (d := some 123) (.int .i64 ((aq4 i2).sn : Int)) rfl rfl (by kernel_rfl) (fun U hU => (by go_simp)) ?_
                refine PickT.value (d := some 124) (.pointer (some ⟨sb, 0, none⟩)) rfl rfl (by kernel_rfl) (fun U hU => (by go_simp)) ?_
                refine PickT.value (d := some 125) (.slice (some qd) j c') rfl rfl (by kernel_rfl) (fun U hU => (by obtain ⟨h0, h1, h2, h3, h4, h5, h6, h7⟩ := HXC.out U hU; go_simp)) ?_
                refine PickT.value (d := some 126) (.int .i64 (jj : Int)) rfl rfl (by kernel_rfl) (fun U hU => (by go_simp)) ?_
                refine PickT.value (d := some 127) (.pointer (some (qd.add (jj * 3)))) rfl rfl (by kernel_rfl) (fun U hU => (by go_simp)) ?_
                refine PickT.value (d := some 128) (.pointer (some ⟨(qd.add (jj * 3)).block, (qd.add (jj * 3)).off + 1, none⟩)) rfl rfl (by kernel_rfl) (fun U hU => (by go_simp)) ?_
                refine PickT.value (d := some 129) (.slice (q jj).sa (aq4 i2).sn (q jj).sc) rfl rfl (by kernel_rfl) (fun U hU => (by obtain ⟨h0, h1, h2, h3, h4, h5, h6, h7⟩ := HXC.out U hU; go_simp)) ?_
                refine PickT.value (d := some 130) (.int .i64 ((aq4 i2).sn : Int)) rfl rfl (by kernel_rfl) (fun U hU => (by go_simp)) ?_
                refine PickT.value (d := some 131) (.bool false) rfl rfl (by kernel_rfl) (fun U hU => (by go_simp)) ?_
                refine PickT.value (d := some 132) (.bool false) rfl rfl (by kernel_rfl) (fun U hU => (by go_simp)) ?_
                refine PickT.value (d := some 133) (.bool false) rfl rfl (by kernel_rfl) (fun U hU => (by go_simp)) ?_
                refine PickT.value (d := some 134) (.pointer (some ⟨b4 + 1, 2, none⟩)) rfl rfl (by kernel_rfl) (fun U hU => (by go_simp)) ?_
                refine PickT.value (d := some 135) (.slice (some ad) m4 d4) rfl rfl (by kernel_rfl) (fun U hU => (by obtain ⟨h0, h1, h2, h3, h4, h5, h6, h7⟩ := HXC.out U hU; go_simp)) ?_
                refine PickT.value (d := some 136) (.int .i64 (i2 : Int)) rfl rfl (by kernel_rfl) (fun U hU => (by go_simp)) ?_
                refine PickT.value (d := some 137) (.pointer (some (ad.add (i2 * 3)))) rfl rfl (by kernel_rfl) (fun U hU => (by go_simp)) ?_
                refine PickT.value (d := some 138) (.pointer (some ⟨(ad.add (i2 * 3)).block, (ad.add (i2 * 3)).off + 1, none⟩)) rfl rfl (by kernel_rfl) (fun U hU => (by go_simp)) ?_
                refine PickT.value (d := some 139) (.slice (some sd) (aq4 i2).sn (aq4 i2).sc) rfl rfl (by kernel_rfl) (fun U hU => (by obtain ⟨h0, h1, h2, h3, h4, h5, h6, h7⟩ := HXC.out U hU; go_simp)) ?_
                refine PickT.value (d := some 140) (.pointer (some sd)) rfl rfl (by kernel_rfl) (fun U hU => (by go_simp)) ?_
                refine PickT.value (d := some 141) (.pointer (some sd)) rfl rfl (by kernel_rfl) (fun U hU => (by go_simp)) ?_
                refine PickT.value (d := some 142) (.int .i64 ((aq4 i2).s 0).t) rfl rfl (by kernel_rfl) (fun U hU => (by obtain ⟨h0, h1, h2, h3, h4, h5, h6, h7⟩ := HXC.out U hU; go_simp)) ?_
                refine PickT.value (d := some 143) (.pointer (some ⟨sb, 1, none⟩)) rfl rfl (by kernel_rfl) (fun U hU => (by go_simp)) ?_
                refine PickT.value (d := some 144) (.int .i64 fl) rfl rfl (by kernel_rfl) (fun U hU => (by obtain ⟨h0, h1, h2, h3, h4, h5, h6, h7⟩ := HXC.out U hU; go_simp)) ?_
                refine PickT.value (d := some 145) (.bool false) rfl rfl (by kernel_rfl) (fun U hU => (by go_simp)) ?_
                refine PickT.value (d := some 146) (.bool false) rfl rfl (by kernel_rfl) (fun U hU => (by go_simp)) ?_
                simp only [PickT, Act.put, List.setIfInBounds_toArray, List.set_cons_zero, List.set_cons_succ]
                refine wpAnyT_done (by kernel_rfl) ?_ _
                refine only_mk ?_
                go_wp2_with fail
                have HB29 := Lib.hid (below_step HBL.out HD.out)
                by_cases hkm : k2 < m5
                · have hsb := HSA5.out.each k2 hkm
                  obtain ⟨bd, rfl, z0, zz⟩ := HSA5.out.row.at_ HB29.out hkm
                  have hmd := HMD.out
                  have n1 : (k2 : Int) < (m5 : Int) := by omega
                  have n2 : (k2 : Int) ≤ (k2 : Int) + 1 := by omega
                  have n3 : (k2 : Int) + 1 ≤ (d5 : Int) := by omega
                  have n4 : ((k2 : Int) + 1).toNat = k2 + 1 := by omega
                  have n5 : ¬ d5 = k2 := by omega
                  have n6 : wrap64 ((k2 : Int) + 1) = (k2 : Int) + 1 := IntWalk.wrap64_in _ (by omega)
                  have n6b : IntKind.i64.wrap ((k2 : Int) + 1) = (k2 : Int) + 1 := (IntWalk.i64_left _).trans n6
                  have n7 : decide ((k2 : Int) < (m5 : Int)) = true := decide_eq_true n1
                  have n8 : k2 + 1 - k2 = 1 := by omega
                  have HRW : Hid (∀ U, Below wr.heap.size wr U → Sers U (some (bd.add (k2 * 3))) 1 (d5 - k2) (fun _ => aq5 k2)) := Lib.hid (fun U hU => ⟨(HSA5.out.row.later (below_step HBL.out hU)).sub hkm, fun e => (by cases e), by omega, fun i _ => hsb.later (below_step HBL.out hU)⟩)
                  clear z0 zz hsb hmd
                  go_wp2_with fail
                  refine plain_T (fun U => Below wr.heap.size wr U) [] (by kernel_rfl) ?_
                  have HD2 : Hid (Below wr.heap.size wr we.drew) := Lib.hid HD.out.drew
                  generalize we.drew = wf at HD2 ⊢
                  refine wpAnyT_pick (S := (fun U => Below wr.heap.size wr U)) (by kernel_rfl) Only.panic Only.keepsIn (w := wf) HD2.out [0, 1, 2, 3, 4, 5, 6, 7, 8, 9, 10, 11, 12, 13, 14, 15, 16, 17, 18] 3 _ _ (by kernel_rfl) ?_
                  refine PickT.value (d := some 147) (.int .i64 (k2 : Int)) rfl rfl (by kernel_rfl) (fun U hU => (by go_simp)) ?_
                  refine PickT.value (d := some 148) (.pointer (some ⟨b5 + 1, 2, none⟩)) rfl rfl (by kernel_rfl) (fun U hU => (by go_simp)) ?_
                  refine PickT.value (d := some 149) (.slice (some bd) m5 d5) rfl rfl (by kernel_rfl) (fun U hU => (by obtain ⟨h0, h1, h2, h3, h4, h5, h6, h7⟩ := HXC.out U hU; go_simp)) ?_
                  refine PickT.value (d := some 150) (.int .i64 (m5 : Int)) rfl rfl (by kernel_rfl) (fun U hU => (by go_simp)) ?_
                  refine PickT.value (d := some 151) (.bool true) rfl rfl (by kernel_rfl) (fun U hU => (by go_simp)) ?_
                  refine PickT.value (d := some 152) (.bool true) rfl rfl (by kernel_rfl) (fun U hU => (by go_simp)) ?_
                  refine PickT.value (d := some 153) (.pointer (some ⟨b5 + 1, 2, none⟩)) rfl rfl (by kernel_rfl) (fun U hU => (by go_simp)) ?_
                  refine PickT.value (d := some 154) (.slice (some bd) m5 d5) rfl rfl (by kernel_rfl) (fun U hU => (by obtain ⟨h0, h1, h2, h3, h4, h5, h6, h7⟩ := HXC.out U hU; go_simp)) ?_
                  refine PickT.value (d := some 155) (.int .i64 (k2 : Int)) rfl rfl (by kernel_rfl) (fun U hU => (by go_simp)) ?_
                  refine PickT.value (d := some 156) (.int .i64 (k2 : Int)) rfl rfl (by kernel_rfl) (fun U hU => (by go_simp)) ?_
                  refine PickT.value (d := some 157) (.int .i64 ((k2 : Int) + 1)) rfl rfl (by kernel_rfl) (fun U hU => (by go_simp)) ?_
                  refine PickT.value (d := some 158) (.slice (some (bd.add (k2 * 3))) 1 (d5 - k2)) rfl rfl (by kernel_rfl) (fun U hU => (by go_simp)) ?_
                  refine PickT.value (d := some 159) (.agg #[.slice (some (bd.add (k2 * 3))) 1 (d5 - k2), .int .i64 0]) rfl rfl (by kernel_rfl) (fun U hU => (by go_simp)) ?_
                  refine PickT.value (d := some 160) (.pointer (some ⟨b4 + 1, 2, none⟩)) rfl rfl (by kernel_rfl) (fun U hU => (by go_simp)) ?_
                  refine PickT.value (d := some 161) (.slice (some ad) m4 d4) rfl rfl (by kernel_rfl) (fun U hU => (by obtain ⟨h0, h1, h2, h3, h4, h5, h6, h7⟩ := HXC.out U hU; go_simp)) ?_
                  refine PickT.value (d := some 162) (.int .i64 (i2 : Int)) rfl rfl (by kernel_rfl) (fun U hU => (by go_simp)) ?_
                  refine PickT.value (d := some 163) (.pointer (some (ad.add (i2 * 3)))) rfl rfl (by kernel_rfl) (fun U hU => (by go_simp)) ?_
                  refine PickT.value (d := some 164) (.pointer (some (ad.add (i2 * 3)))) rfl rfl (by kernel_rfl) (fun U hU => (by go_simp)) ?_
                  refine PickT.value (d := some 165) (.slice (aq4 i2).la (aq4 i2).ln (aq4 i2).lc) rfl rfl (by kernel_rfl) (fun U hU => (by obtain ⟨h0, h1, h2, h3, h4, h5, h6, h7⟩ := HXC.out U hU; go_simp)) ?_
                  simp only [PickT, Act.put, List.setIfInBounds_toArray, List.set_cons_zero, List.set_cons_succ]
                  have HFD := Lib.hid (SFind_any (some (bd.add (k2 * 3))) 1 (d5 - k2) (fun _ => aq5 k2) 0 (aq4 i2).la (aq4 i2).ln (aq4 i2).lc HSE.out.lnone (aq4 i2).f HSE.out.lsize wf (HRW.out _ HD2.out) (HSE.out.labs.later (below_step HBL.out HD2.out)))
                  rw [find_one] at HFD
                  have hl4 : i2 < (labsL aq4 m4).length := by rw [labsL_len]; exact hlt
                  have hl5 : k2 < (labsL aq5 m5).length := by rw [labsL_len]; exact hkm
                  have e4 := labsL_get aq4 hl4
                  have e5 := labsL_get aq5 hl5
                  by_cases heq : La.listOf (aq5 k2).f (aq5 k2).ln = La.listOf (aq4 i2).f (aq4 i2).ln
                  · rw [if_pos heq] at HFD
                    have HGN := Lib.hid (gr_hit HG.out hl5 hl4 (by rw [e4, e5]; exact heq))
                    clear hl4 hl5 e4 e5 heq
                    refine wpAnyT_one (i := 19) (by kernel_rfl) rfl (by kernel_rfl) ?_
                    intro K hK
                    unfold Oper.wp
                    go_simp
                    refine HFD.out.mono ?_; rintro e w10 ⟨rfl, hb10⟩
                    have HB10 := Lib.hid (below_step HD2.out hb10)
                    clear hb10 HFD
                    refine hK _ _ (fun _ => HB10.out) ?_
                    clear hK K
                    clear n1 n2 n3 n4 n5 n6b n6 n8
                    refine wpAnyT_pick (S := (fun U => Below wr.heap.size wr U)) (by kernel_rfl) Only.panic Only.keepsIn (w := w10) HB10.out [20, 21] 0 _ _ (by kernel_rfl) ?_
                    refine PickT.value (d := some 167) (.bool true) rfl rfl (by kernel_rfl) (fun U hU => (by go_simp)) ?_
                    refine PickT.value (d := some 168) (.bool true) rfl rfl (by kernel_rfl) (fun U hU => (by go_simp)) ?_
                    simp only [PickT, Act.put, List.setIfInBounds_toArray, List.set_cons_zero, List.set_cons_succ]
                    refine wpAnyT_done (by kernel_rfl) ?_ _
                    refine only_mk ?_
                    have HBN := Lib.hid (below_step HBL.out HB10.out)
                    go_wp2_with fail
                    go_roundw
                    case rel => exact ⟨k2 + 1, i2 + 1, by omega, by omega, by go_num, by go_num, HGN.out, HBN.out⟩
                    case measure => simp [intOf]; omega
                  · rw [if_neg heq] at HFD
                    have HGN := Lib.hid (gr_miss HG.out hl4 (fun _ => by rw [e4, e5]; exact heq))
                    clear hl4 hl5 e4 e5 heq
                    refine wpAnyT_one (i := 19) (by kernel_rfl) rfl (by kernel_rfl) ?_
                    intro K hK
                    unfold Oper.wp
                    go_simp
                    refine HFD.out.mono ?_; rintro e w10 ⟨rfl, hb10⟩
                    have HB10 := Lib.hid (below_step HD2.out hb10)
                    clear hb10 HFD
                    refine hK _ _ (fun _ => HB10.out) ?_
                    clear hK K
                    clear n1 n2 n3 n4 n5 n6b n6 n8
                    refine wpAnyT_pick (S := (fun U => Below wr.heap.size wr U)) (by kernel_rfl) Only.panic Only.keepsIn (w := w10) HB10.out [20, 21] 0 _ _ (by kernel_rfl) ?_
                    refine PickT.value (d := some 167) (.bool false) rfl rfl (by kernel_rfl) (fun U hU => (by go_simp)) ?_
                    refine PickT.value (d := some 168) (.bool false) rfl rfl (by kernel_rfl) (fun U hU => (by go_simp)) ?_
                    simp only [PickT, Act.put, List.setIfInBounds_toArray, List.set_cons_zero, List.set_cons_succ]
                    refine wpAnyT_done (by kernel_rfl) ?_ _
                    refine only_mk ?_
                    have HBN := Lib.hid (below_step HBL.out HB10.out)
                    go_wp2_with fail
                    go_roundw
                    case rel => exact ⟨k2, i2 + 1, by omega, by omega, by go_num, by go_num, HGN.out, HBN.out⟩
                    case measure => simp [intOf]; omega
                · obtain rfl : k2 = m5 := by omega
                  have n7 : decide ((k2 : Int) < (k2 : Int)) = false := decide_eq_false (by omega)
                  have hl4 : i2 < (labsL aq4 m4).length := by rw [labsL_len]; exact hlt
                  have HGN := Lib.hid (gr_miss HG.out hl4 (fun hk => by rw [labsL_len] at hk; exact absurd hk hkm))
                  clear hl4
                  go_wp2_with fail
                  refine plain_T (fun U => Below wr.heap.size wr U) [] (by kernel_rfl) ?_
                  have HD2 : Hid (Below wr.heap.size wr we.drew) := Lib.hid HD.out.drew
                  generalize we.drew = wf at HD2 ⊢
                  refine wpAnyT_pick (S := (fun U => Below wr.heap.size wr U)) (by kernel_rfl) Only.panic Only.keepsIn (w := wf) HD2.out [0, 1, 2, 3, 4, 5, 6, 7, 8, 9, 10, 11, 12, 13, 14, 15, 16, 17, 18, 19, 20, 21] 0 _ _ (by kernel_rfl) ?_
                  refine PickT.value (d := some 147) (.int .i64 (k2 : Int)) rfl rfl (by kernel_rfl) (fun U hU => (by go_simp)) ?_
                  refine PickT.value (d := some 148) (.pointer (some ⟨b5 + 1, 2, none⟩)) rfl rfl (by kernel_rfl) (fun U hU => (by go_simp)) ?_
                  refine PickT.value (d := some 149) (.slice B5 k2 d5) rfl rfl (by kernel_rfl) (fun U hU => (by obtain ⟨h0, h1, h2, h3, h4, h5, h6, h7⟩ := HXC.out U hU; go_simp)) ?_
                  refine PickT.value (d := some 150) (.int .i64 (k2 : Int)) rfl rfl (by kernel_rfl) (fun U hU => (by go_simp)) ?_
                  refine PickT.value (d := some 151) (.bool false) rfl rfl (by kernel_rfl) (fun U hU => (by go_simp)) ?_
                  refine PickT.value (d := some 152) (.bool false) rfl rfl (by kernel_rfl) (fun U hU => (by go_simp)) ?_
                  refine PickT.skip (d := some 153) rfl rfl (by kernel_rfl) ?_
                  refine PickT.skip (d := some 154) rfl rfl (by kernel_rfl) ?_
                  refine PickT.skip (d := some 155) rfl rfl (by kernel_rfl) ?_
                  refine PickT.skip (d := some 156) rfl rfl (by kernel_rfl) ?_
                  refine PickT.skip (d := some 157) rfl rfl (by kernel_rfl) ?_
                  refine PickT.skip (d := some 158) rfl rfl (by kernel_rfl) ?_
                  refine PickT.skip (d := some 159) rfl rfl (by kernel_rfl) ?_
                  refine PickT.skip (d := some 160) rfl rfl (by kernel_rfl) ?_
                  refine PickT.skip (d := some 161) rfl rfl (by kernel_rfl) ?_
                  refine PickT.skip (d := some 162) rfl rfl (by kernel_rfl) ?_
                  refine PickT.skip (d := some 163) rfl rfl (by kernel_rfl) ?_
                  refine PickT.skip (d := some 164) rfl rfl (by kernel_rfl) ?_
                  refine PickT.skip (d := some 165) rfl rfl (by kernel_rfl) ?_
                  refine PickT.skip (d := some 166) rfl rfl (by kernel_rfl) ?_
                  refine PickT.skip (d := some 167) rfl rfl (by kernel_rfl) ?_
                  refine PickT.value (d := some 168) (.bool false) rfl rfl (by kernel_rfl) (fun U hU => (by go_simp)) ?_
                  simp only [PickT, Act.put, List.setIfInBounds_toArray, List.set_cons_zero, List.set_cons_succ]
                  refine wpAnyT_done (by kernel_rfl) ?_ _
                  refine only_mk ?_
                  have HBN := Lib.hid (below_step HBL.out HD2.out)
                  go_wp2_with fail
                  go_roundw
                  case rel => exact ⟨k2, i2 + 1, by omega, by omega, by go_num, by go_num, HGN.out, HBN.out⟩
                  case measure => simp [intOf]; omega
              · obtain rfl : i2 = m4 := by omega
                have d1 : decide ((i2 : Int) < (i2 : Int)) = false := decide_eq_false (by omega)
                have hg2 := HG.out
                rw [← labsL_len aq4 i2] at hg2
                have hke := gr_end (k := k2) (by rw [labsL_len] at hg2 ⊢; exact HG.out) (by rw [labsL_len]; exact hk2)
                rw [labsL_len] at hke
                have y2 : wr.cell? ⟨b5 + 1, 2, none⟩ = some (.slice B5 k2 d5) := by rw [hke]; exact cell_of_row _ _ _ _ _ _ (heap_keep HY5.out hbl)
                clear hg2 hke hgr hbl
                go_wp2_with fail
                go_ret
                exact ⟨rfl, below_step HW5.out HBL.out⟩
      · rw [if_neg hm] at hr5
        obtain rfl : er5 = 1 := by rw [HER5.out, hr5]
        have hm5 : m5 = 0 := by rw [← sers_length aq5 m5, HAQ5.out, hr5]; rfl
        subst hm5
        clear hr5 hm
        go_upto_region 14 with (fail)
        rw [← hW5, ← hbb5]
        clear hW5 hbb5
        have y0 : W5.cell? ⟨b4 + 1, 0, none⟩ = some (.int .i64 0) := cell_of_row _ _ _ _ _ _ HY45.out
        have y1 : W5.cell? ⟨b5 + 1, 0, none⟩ = some (.int .i64 1) := cell_of_row _ _ _ _ _ _ HY5.out
        have y2 : W5.cell? ⟨b5 + 1, 2, none⟩ = some (.slice B5 0 d5) := cell_of_row _ _ _ _ _ _ HY5.out
        go_wp2_with fail
        go_ret
        exact ⟨rfl, HW5.out⟩
set_option maxRecDepth 100000 in
theorem truthAsks_walk {H : Type} {enc : TypeId × Value → H} {r : Reach} {b0 : Nat} {a : Value} {d : DataW H} {p : List MemPlace} {r2 : Reach} {b2 : Nat} {v2 : Value} {d2 : DataW H} {p2 : List MemPlace} (w : World)
    (hv : Value.okWide Try.prog w r b0 22 a) (h : DataW.Trod enc Try.prog w 0 (fun _ => true) true 22 a d p) (hv2 : Value.okWide Try.prog w r2 b2 36 v2) (h2 : DataW.Trod enc Try.prog w 0 (fun _ => true) true 36 v2 d2 p2) :
    Calls Try.prog 4 #[a, v2] w fun e w' => e = .returned (.bool true) ∧ Below w.heap.size w w' := by
  obtain ⟨A, n, c, o, rfl, hn, hA, ho⟩ := open_ops hv h
  obtain ⟨B, m, cm, g, rfl, h3, h4, h5, -, hB⟩ := open_mats hv2 h2
  exact truthAsks_walk0 w A n c hn o hA ho B m cm g (Nat.le_trans h3 h4) hB h5
end Go.Proofs.Ytidfanmfibbiiaa
