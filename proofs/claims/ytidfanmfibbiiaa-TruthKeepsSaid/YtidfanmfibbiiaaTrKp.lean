/-
  TruthKeeps: the walk.
-/
import Derived.Test.YtidfanmfibbiiaaTrKq
namespace Go.Proofs.Ytidfanmfibbiiaa
open Go.RowKit
theorem mok_nil (h : Nat → Mat) : par.mok ((List.range 0).map h) = true := rfl
/-- what the law says, of states -/
theorem keeps_all {S : Tr.Stt (List Lab)} (hok : Tr.Ok par S) {t : Int} (hT : Tr.isT t = true) (h0 : t ≠ 0) {S1 : Tr.Stt (List Lab)} (h1 : S1 = (Tr.run par S (opM 2 none 0 0 noMat t 0).op 3).1) :
    t ≤ S1.floor ∧ (Tr.run par S1 (opM 3 none 0 0 noMat 0 (t - 1)).op 3).2.1.ser = [] ∧
    (Tr.run par S (opM 3 none 0 0 noMat t 1125899906842624).op 3).2.1 = (Tr.run par S1 (opM 3 none 0 0 noMat t 1125899906842624).op 3).2.1 ∧
    ∀ (xa : Option Addr) (xn xc : Nat) (f : Nat → Lab), (Tr.run par S1 (opL xa xn xc f (t - 1) 0).op 3).2.1.err ≠ 0 ∧ (Tr.run par S1 (opL xa xn xc f (t - 1) 0).op 3).2.2 = [] := by
  have hok1 : Tr.Ok par S1 := by rw [h1]; exact Tr.ok_run par_good hok _ 3
  obtain ⟨ht0, ht1⟩ := Tr.isT_iff.1 hT
  rw [runM2, if_pos hT] at h1
  have hf : t ≤ S1.floor := by
    split at h1
    · rw [h1]; exact Int.le_refl t
    · rw [h1]; show t ≤ S.floor; omega
  refine ⟨hf, ?_, ?_, ?_⟩
  · rw [runM3, if_pos ⟨mok_nil _, by omega⟩]
    exact Tr.old_none hok1 _ hf
  · rw [runM3, runM3, if_pos ⟨mok_nil _, ht1⟩, if_pos ⟨mok_nil _, ht1⟩]
    have e : Tr.askS par ((List.range 0).map noMat) t 1125899906842624 S.ser = Tr.askS par ((List.range 0).map noMat) t 1125899906842624 S1.ser := by
      split at h1
      · rw [h1]; exact (Tr.kept_ask hok _ t).symm
      · rw [h1]
    rw [e]
  · intro xa xn xc f
    obtain ⟨k1, k2⟩ := Tr.put_late (p := par) (S := S1) (l := La.listOf f xn) (t := t - 1) (v := 0) (gen := 3) (by omega)
    obtain ⟨e1, e2, -⟩ := Tr.run_app_no (m := (List.range 0).map noMat) (hi := 0) k1
    exact ⟨fun h => k2 (e2.symm.trans h), e1⟩
set_option maxRecDepth 100000 in
set_option maxHeartbeats 8000000 in
theorem truthKeeps_walk0 (W : World) (A : Option Addr) (n c : Nat) (hn : n ≤ maxLen) (o : Nat → OpAt) (hA : Row 7 (fun i => (o i).cell) W A n) (ho : ∀ i, i < n → OpIn W (o i)) (xa : Option Addr) (xn xc : Nat) (f : Nat → Lab) (hxn : xn ≤ maxLen) (hx : LabRow W xa xn f) (hxz : xa = none → xn = 0 ∧ xc = 0) (t : Int) :
    Calls Try.prog 8 #[.slice A n c, .int .i64 t, .slice xa xn xc] W fun e w' => e = .returned (.bool true) ∧ Below W.heap.size W w' := by
  have HA := Lib.hid hA; have HO := Lib.hid ho; have HX := Lib.hid hx; have HXZ := Lib.hid hxz
  have HWO := Lib.hid (works_any W)
  have HFW := Lib.hid (fun U (hb : Below W.heap.size W U) => FewOps_any A n c hn o U (hA.later hb) (fun i hi => (ho i hi).later hb))
  have HFX := Lib.hid (fun U (hb : Below W.heap.size W U) => Few_any xa xn xc hxn f U (hx.later hb))
  clear hA ho hx hxz
  go_enter Try.func8, Try.ntmps8
  go_wp2_with fail
  refine HWO.out.mono ?_; rintro e w1 ⟨rfl, hb1⟩
  have HB1 := Lib.hid hb1; clear hb1 HWO
  go_wp2_with fail
  refine (HFW.out _ HB1.out).mono ?_; rintro e w2 ⟨rfl, hb2⟩
  have HB2 := Lib.hid (below_step HB1.out hb2); clear hb2 HFW
  cases hfew : fewOs o n
  · clear hfew
    go_wp2_with fail
    go_ret
    exact ⟨rfl, HB2.out⟩
  obtain ⟨hn40, hfo⟩ := fewOs_yes hfew
  have HSM := Lib.hid (fun i (hi : i < n) => (HO.out i hi).sm (hfo i hi))
  clear hfew hfo HO
  go_wp2_with fail
  refine (HFX.out _ HB2.out).mono ?_; rintro e w2x ⟨rfl, hb2⟩
  have HB2x := Lib.hid (below_step HB2.out hb2); clear hb2 HFX HB2
  cases hfew : La.few f xn
  · clear hfew
    go_wp2_with fail
    go_ret
    exact ⟨rfl, HB2x.out⟩
  have HXF := Lib.hid (La.few_yes hfew)
  clear hfew
  go_wp2_with fail
  obtain ⟨w3, hw3⟩ : ∃ w3, w3 = w2x.alloc (.cells #[.slice none 0 0, .int .i64 0] 28) := ⟨_, rfl⟩
  obtain ⟨sb, hsb⟩ : ∃ sb, sb = w2x.heap.size := ⟨_, rfl⟩
  have hb3 : Below w2x.heap.size w2x w3 := by rw [hw3]; exact (Below.refl _ _).alloc (Nat.le_refl _) _
  have HST : Hid (StAt W w3 sb none 0 0 q0 0) := Lib.hid ⟨below_step HB2x.out hb3, by rw [hsb]; exact HB2x.out.size, by rw [hw3, hsb]; exact heap_alloc_new w2x _, ⟨World.ownsRow_nil _ _ _ _, by omega, fun i hi => by omega, fun i j hi => by omega⟩, Tr.ok_empty⟩
  rw [← hw3, ← hsb]
  clear hw3 hsb hb3
  go_loopw [10] (fun i wr => ∃ (k : Nat) (A' : Option Addr) (n' c' : Nat) (q : Nat → SerAt) (fl : Int), k ≤ n ∧ i = .int .i64 k ∧ StAt W wr sb A' n' c' q fl) (fun i _ => n - (intOf i).toNat)
  case atStart => exact ⟨0, none, 0, 0, q0, 0, by omega, rfl, HST.out⟩
  case round =>
    obtain ⟨k, A', n', c', q, fl, hkn, rfl, hst⟩ := hrel
    have HS := Lib.hid hst; clear hst HST
    have i0 : (0 : Int) ≤ (k : Int) := Int.natCast_nonneg _
    by_cases hlt : k < n
    · have i1 : (k : Int) < (n : Int) := by omega
      have d1 : decide ((k : Int) < (n : Int)) = true := decide_eq_true i1
      obtain ⟨ad, rfl, cc0, cc⟩ := HA.out.at_ HS.out.bel hlt
      obtain ⟨hf1, hf2⟩ := ok_few HS.out.ok
      have HDO := Lib.hid (fun U (hb : Below wr.heap.size wr U) => Do_any A' n' c' q fl 3 (o k) U (HS.out.far hb).srs (by omega) (fun i hi => Nat.le_trans (hf2 i hi) (by decide)) ((HSM.out k hlt).later (HS.out.far hb).bel))
      have HOK := Lib.hid (Tr.ok_run par_good HS.out.ok (o k).op 3)
      generalize hr : Tr.run par ⟨sers q n', fl⟩ (o k).op 3 = r at *
      clear hr
      go_wp2_with fail
      refine plain_T (fun U => Below wr.heap.size wr U) [6, 7, 8, 9, 10] (by kernel_rfl) ?_
      have HD : Hid (Below wr.heap.size wr wr.drew) := Lib.hid (Below.refl _ _).drew
      generalize wr.drew = wd at HD ⊢
      have HOC : Hid (∀ U, Below wr.heap.size wr U → U.cell? (ad.add (k * 7)) = some (.int .i64 (o k).kind) ∧ U.cell? ⟨(ad.add (k * 7)).block, (ad.add (k * 7)).off + 1, none⟩ = some (.slice (o k).la (o k).ln (o k).lc) ∧ U.cell? ⟨(ad.add (k * 7)).block, (ad.add (k * 7)).off + 2, none⟩ = some (.slice (o k).ma (o k).mn (o k).mc) ∧ U.cell? ⟨(ad.add (k * 7)).block, (ad.add (k * 7)).off + 3, none⟩ = some (.int .i64 (o k).t) ∧ U.cell? ⟨(ad.add (k * 7)).block, (ad.add (k * 7)).off + 4, none⟩ = some (.int .i64 (o k).hi) ∧ U.cell? ⟨(ad.add (k * 7)).block, (ad.add (k * 7)).off + 5, none⟩ = some (.int .u64 (o k).v) ∧ U.cell? ⟨(ad.add (k * 7)).block, (ad.add (k * 7)).off + 6, none⟩ = some (.int .i64 (o k).gen)) := Lib.hid (fun U hU =>
        ⟨cell_keep (cc0 (by decide)) hU, cell_keep (cc 1 (by omega) (by omega)) hU, cell_keep (cc 2 (by omega) (by omega)) hU, cell_keep (cc 3 (by omega) (by omega)) hU, cell_keep (cc 4 (by omega) (by omega)) hU, cell_keep (cc 5 (by omega) (by omega)) hU, cell_keep (cc 6 (by omega) (by omega)) hU⟩)
      clear cc0 cc
      refine wpAnyT_pick (S := (fun U => Below wr.heap.size wr U)) (by kernel_rfl) Only.panic Only.keepsIn (w := wd) HD.out [0, 1, 2, 3, 4] 6 _ _ (by kernel_rfl) ?_
      refine PickT.value (d := some 46) (.agg #[.slice A' n' c', .int .i64 fl]) rfl rfl (by kernel_rfl) (fun U hU => (by have hy := heap_keep HS.out.sk hU; have h0 : U.cell? ⟨sb, 0, none⟩ = some (.slice A' n' c') := cell_of_row _ _ _ _ _ _ hy; have h1 : U.cell? ⟨sb, 1, none⟩ = some (.int .i64 fl) := cell_of_row _ _ _ _ _ _ hy; go_simp)) ?_
      refine PickT.value (d := some 47) (.slice (some ad) n c) rfl rfl (by kernel_rfl) (fun U hU => (by go_simp)) ?_
      refine PickT.value (d := some 48) (.int .i64 (k : Int)) rfl rfl (by kernel_rfl) (fun U hU => (by go_simp)) ?_
      refine PickT.value (d := some 49) (.pointer (some (ad.add (k * 7)))) rfl rfl (by kernel_rfl) (fun U hU => (by go_simp)) ?_
      refine PickT.value (d := some 50) (.agg #[.int .i64 (o k).kind, .slice (o k).la (o k).ln (o k).lc, .slice (o k).ma (o k).mn (o k).mc, .int .i64 (o k).t, .int .i64 (o k).hi, .int .u64 (o k).v, .int .i64 (o k).gen]) rfl rfl (by kernel_rfl) (fun U hU => (by obtain ⟨h0, h1, h2, h3, h4, h5, h6⟩ := HOC.out U hU; go_simp)) ?_
      simp only [PickT, Act.put, List.setIfInBounds_toArray, List.set_cons_zero, List.set_cons_succ]
      refine wpAnyT_one (i := 5) (by kernel_rfl) rfl (by kernel_rfl) ?_
      intro K hK
      unfold Oper.wp
      go_simp
      refine (HDO.out _ HD.out).mono ?_; rintro e w9 ⟨A9, n9, c9, q9, B9, m9, d9, aq9, C9, k9, f9, rr9, rfl, -, hse9, -, -, -, -, hb9, hrw9, -⟩
      have HB9 := Lib.hid (below_step HD.out hb9)
      have HRW9 := Lib.hid (hrw9.from_ (Nat.le_trans HS.out.bel.size HD.out.size)); have HSE9 := Lib.hid hse9
      clear hb9 hrw9 hse9 HDO HOC
      refine hK _ _ (fun _ => HB9.out) ?_
      clear hK K
      refine wpAnyT_turn (fun _ => True) [] (by kernel_rfl) ?_
      refine wpAnyT_pick (S := (fun _ => True)) (by kernel_rfl) Only.panic Only.keepsIn (w := w9) True.intro [6, 7, 8, 9] 1 _ _ (by kernel_rfl) ?_
      refine PickT.value (d := some 45) (.tuple #[.agg #[.slice A9 n9 c9, .int .i64 r.1.floor], .agg #[.int .i64 r.2.1.err, .int .i64 r.2.1.n, .slice B9 m9 d9], .slice C9 k9 f9]) rfl rfl (by kernel_rfl) (fun U hU => (by go_simp)) ?_
      refine PickT.value (d := some 52) (.agg #[.slice A9 n9 c9, .int .i64 r.1.floor]) rfl rfl (by kernel_rfl) (fun U hU => (by go_simp)) ?_
      refine PickT.value (d := some 53) (.agg #[.int .i64 r.2.1.err, .int .i64 r.2.1.n, .slice B9 m9 d9]) rfl rfl (by kernel_rfl) (fun U hU => (by go_simp)) ?_
      refine PickT.value (d := some 54) (.slice C9 k9 f9) rfl rfl (by kernel_rfl) (fun U hU => (by go_simp)) ?_
      simp only [PickT, Act.put, List.setIfInBounds_toArray, List.set_cons_zero, List.set_cons_succ]
      have a0 : w9.cell? ⟨sb, 0, none⟩ = some (.slice A' n' c') := cell_of_row _ _ _ _ _ _ (heap_keep HS.out.sk HB9.out)
      have a1 : w9.cell? ⟨sb, 1, none⟩ = some (.int .i64 fl) := cell_of_row _ _ _ _ _ _ (heap_keep HS.out.sk HB9.out)
      have b0 : w9.frozen? ⟨sb, 0, none⟩ = false := frozen_of_row _ _ _ _ _ (heap_keep HS.out.sk HB9.out)
      have b1 : w9.frozen? ⟨sb, 1, none⟩ = false := frozen_of_row _ _ _ _ _ (heap_keep HS.out.sk HB9.out)
      refine wpAnyT_one (i := 10) (by kernel_rfl) rfl (by kernel_rfl) ?_
      intro K hK
      unfold Oper.wp
      go_simp
      clear a0 a1 b0 b1
      refine hK _ _ (fun _ => True.intro) ?_
      clear hK K
      have HN := Lib.hid (HS.out.next HB9.out HRW9.out (by rw [HSE9.out]; exact HOK.out))
      clear HRW9 HSE9 HOK HB9
      refine wpAnyT_done (by kernel_rfl) ?_ _
      refine only_mk ?_
      go_wp2_with fail
      go_roundw
      case rel => exact ⟨k + 1, A9, n9, c9, q9, r.1.floor, by omega, by go_num, HN.out⟩
      case measure => simp [intOf]; omega
    · have d1 : decide ((k : Int) < (n : Int)) = false := decide_eq_false (by omega)
      clear HA HSM i0
      have HF0 := Lib.hid (ok_few HS.out.ok)
      have HOX : Hid (∀ U tt vv, Below W.heap.size W U → OpSm U (opL xa xn xc f tt vv)) := Lib.hid (fun U tt vv hb => opL_sm tt vv (HX.out.later hb) HXZ.out HXF.out.1 HXF.out.2)
      have HOM : Hid (∀ U kk lo hi, OpSm U (opM kk none 0 0 noMat lo hi)) := Lib.hid (fun U kk lo hi => opM_sm kk lo hi (no_mats U _) (fun _ => ⟨rfl, rfl⟩) (Nat.zero_le _) (fun i hi => absurd hi (Nat.not_lt_zero i)))
      obtain ⟨r4, hr4⟩ : ∃ r, r = Tr.run par ⟨sers q n', fl⟩ (opM 2 none 0 0 noMat t 0).op 3 := ⟨_, rfl⟩
      have HD4 := Lib.hid (Do_any A' n' c' q fl 3 (opM 2 none 0 0 noMat t 0) wr HS.out.srs (by have := HF0.out.1; omega) (fun i hi => Nat.le_trans (HF0.out.2 i hi) (by decide)) (HOM.out wr 2 t 0))
      rw [← hr4] at HD4
      have HR4 := Lib.hid hr4
      clear hr4
      have s0 : wr.cell? ⟨sb, 0, none⟩ = some (.slice A' n' c') := cell_of_row _ _ _ _ _ _ HS.out.sk
      have s1 : wr.cell? ⟨sb, 1, none⟩ = some (.int .i64 fl) := cell_of_row _ _ _ _ _ _ HS.out.sk
      clear HX HXZ HXF
      go_wp2_with fail
      clear s0 s1 d1 hlt
      refine HD4.out.mono ?_; rintro e w4 ⟨A4, n4, c4, q4, B4, m4, d4, aq4, C4, k4, f4, rr4, rfl, hs4, hse4, hsa4, hsea4, -, hre4, hbl4, -, -⟩
      obtain ⟨fl4, hfl4⟩ : ∃ x, x = r4.1.floor := ⟨_, rfl⟩
      obtain ⟨er4, her4⟩ : ∃ x, x = r4.2.1.err := ⟨_, rfl⟩
      obtain ⟨cn4, hcn4⟩ : ∃ x, x = r4.2.1.n := ⟨_, rfl⟩
      rw [← hfl4, ← her4, ← hcn4]
      have HE4 := Lib.hid (st_eq hse4 hfl4)
      have HER4 := Lib.hid her4; have HCN4 := Lib.hid hcn4; have HAQ4 := Lib.hid hsea4
      have HRC4 : Hid (k4 = r4.2.2.length) := Lib.hid (by rw [← hre4, recsL_len])
      have hlen4 : n4 = r4.1.ser.length := by rw [← hse4, sers_length]
      have HLN4 := Lib.hid hlen4
      clear hse4 hfl4 her4 hcn4 hsea4 hre4 hlen4 HD4
      have hr4 := HR4.out
      rw [runM2] at hr4
      by_cases hT : Tr.isT t = true
      · by_cases ht0 : t = 0
        · rw [if_pos hT] at hr4
          obtain rfl : er4 = 0 := by
            rw [HER4.out, hr4]
            split <;> rfl
          have HFIN := Lib.hid (below_step HS.out.bel (below_step hbl4 (two_laid w4 (.slice A4 n4 c4) (.int .i64 fl4) (.int .i64 0) (.int .i64 cn4) (.slice B4 m4 d4)).1))
          subst ht0
          clear hs4 hsa4 hbl4 hr4 hT
          go_upto_region 13 with (fail)
          go_wp2_with fail
          go_ret
          exact ⟨rfl, HFIN.out⟩
        · obtain ⟨u1, u2⟩ := Tr.isT_iff.1 hT
          have HT := Lib.hid hT
          rw [if_pos hT] at hr4
          obtain rfl : er4 = 0 := by
            rw [HER4.out, hr4]
            split <;> rfl
          have t1 : (t == 0) = false := by simpa using ht0
          have t2 : decide (t = 0) = false := decide_eq_false ht0
          have wt1 : wrap64 (t - 1) = t - 1 := IntWalk.wrap64_in _ (by omega)
          have HK := Lib.hid (keeps_all HS.out.ok hT ht0 (S1 := ⟨sers q4 n4, fl4⟩) (by rw [HE4.out, HR4.out]))
          have hok := Tr.ok_run par_good HS.out.ok (opM 2 none 0 0 noMat t 0).op 3
          rw [← HR4.out, ← HE4.out] at hok
          have HF4 := Lib.hid (ok_few hok)
          have HFL : Hid (t ≤ fl4) := Lib.hid HK.out.1
          clear hr4 hT hok u1 u2
          obtain ⟨hb4, hX4, hY4⟩ := two_laid w4 (.slice A4 n4 c4) (.int .i64 fl4) (.int .i64 0) (.int .i64 cn4) (.slice B4 m4 d4)
          obtain ⟨W4, hW4⟩ : ∃ W4, W4 = (w4.alloc (.cells #[.slice A4 n4 c4, .int .i64 fl4] 28)).alloc (.cells #[.int .i64 0, .int .i64 cn4, .slice B4 m4 d4] 31) := ⟨_, rfl⟩
          rw [← hW4] at hb4 hX4 hY4
          obtain ⟨b4, hbb4⟩ : ∃ b4, b4 = w4.heap.size := ⟨_, rfl⟩
          rw [← hbb4] at hX4 hY4
          have HX4 := Lib.hid hX4; have HY4 := Lib.hid hY4; have HBL4 := Lib.hid hbl4
          have HB4 := Lib.hid (below_step hbl4 hb4)
          have HS4 := Lib.hid (hs4.later hb4); have HSA4 := Lib.hid (hsa4.later hb4)
          clear hX4 hY4 hbl4 hb4 hs4 hsa4
          have HW4 := Lib.hid (below_step HS.out.bel HB4.out)
          have HSK4 := Lib.hid (heap_keep HS.out.sk HB4.out); have HSS4 := Lib.hid (HS.out.srs.later HB4.out)
          obtain ⟨r5, hr5⟩ : ∃ r, r = Tr.run par ⟨sers q4 n4, fl4⟩ (opM 3 none 0 0 noMat 0 (t - 1)).op 3 := ⟨_, rfl⟩
          have HD5 := Lib.hid (Do_any A4 n4 c4 q4 fl4 3 (opM 3 none 0 0 noMat 0 (t - 1)) W4 HS4.out (by have := HF4.out.1; omega) (fun i hi => Nat.le_trans (HF4.out.2 i hi) (by decide)) (HOM.out W4 3 0 (t - 1)))
          rw [← hr5] at HD5
          have HR5 := Lib.hid hr5
          clear hr5
          go_wp2_with fail
          rw [← hW4, ← hbb4]
          clear hW4 hbb4 t1 t2 ht0
          refine HD5.out.mono ?_; rintro e w5 ⟨A5, n5, c5, q5, B5, m5, d5, aq5, C5, k5, f5, rr5, rfl, hs5, hse5, hsa5, hsea5, -, hre5, hbl5, -, -⟩
          obtain ⟨fl5, hfl5⟩ : ∃ x, x = r5.1.floor := ⟨_, rfl⟩
          obtain ⟨er5, her5⟩ : ∃ x, x = r5.2.1.err := ⟨_, rfl⟩
          obtain ⟨cn5, hcn5⟩ : ∃ x, x = r5.2.1.n := ⟨_, rfl⟩
          rw [← hfl5, ← her5, ← hcn5]
          have HE5 := Lib.hid (st_eq hse5 hfl5)
          have HER5 := Lib.hid her5; have HCN5 := Lib.hid hcn5; have HAQ5 := Lib.hid hsea5
          have HRC5 : Hid (k5 = r5.2.2.length) := Lib.hid (by rw [← hre5, recsL_len])
          have hlen5 : n5 = r5.1.ser.length := by rw [← hse5, sers_length]
          have HLN5 := Lib.hid hlen5
          clear hse5 hfl5 her5 hcn5 hsea5 hre5 hlen5 HD5
          have hm5 : m5 = 0 := by rw [← sers_length aq5 m5, HAQ5.out, HR5.out, HK.out.2.1]; rfl
          subst hm5
          have s0 : w5.cell? ⟨sb, 0, none⟩ = some (.slice A' n' c') := cell_of_row _ _ _ _ _ _ (heap_keep HSK4.out hbl5)
          have s1 : w5.cell? ⟨sb, 1, none⟩ = some (.int .i64 fl) := cell_of_row _ _ _ _ _ _ (heap_keep HSK4.out hbl5)
          have sl : sb < w5.heap.size := (Array.getElem?_eq_some_iff.1 (heap_keep HSK4.out hbl5)).1
          obtain ⟨hb5, hX5, hY5⟩ := two_laid w5 (.slice A5 n5 c5) (.int .i64 fl5) (.int .i64 er5) (.int .i64 cn5) (.slice B5 0 d5)
          obtain ⟨W5, hW5⟩ : ∃ W5, W5 = (w5.alloc (.cells #[.slice A5 n5 c5, .int .i64 fl5] 28)).alloc (.cells #[.int .i64 er5, .int .i64 cn5, .slice B5 0 d5] 31) := ⟨_, rfl⟩
          rw [← hW5] at hb5 hX5 hY5
          obtain ⟨b5, hbb5⟩ : ∃ b5, b5 = w5.heap.size := ⟨_, rfl⟩
          rw [← hbb5] at hX5 hY5
          have HX5 := Lib.hid hX5; have HY5 := Lib.hid hY5; have HBL5 := Lib.hid hbl5
          have HB5 := Lib.hid (below_step hbl5 hb5)
          have HS5 := Lib.hid (hs5.later hb5); have HSA5 := Lib.hid (hsa5.later hb5)
          clear hX5 hY5 hbl5 hb5 hs5 hsa5
          have HW5 := Lib.hid (below_step HW4.out HB5.out)
          have HX45 := Lib.hid (heap_keep HX4.out HB5.out)
          obtain ⟨r6, hr6⟩ : ∃ r, r = Tr.run par ⟨sers q n', fl⟩ (opM 3 none 0 0 noMat t 1125899906842624).op 3 := ⟨_, rfl⟩
          have HD6 := Lib.hid (Do_any A' n' c' q fl 3 (opM 3 none 0 0 noMat t 1125899906842624) W5 (HSS4.out.later HB5.out) (by have := HF0.out.1; omega) (fun i hi => Nat.le_trans (HF0.out.2 i hi) (by decide)) (HOM.out W5 3 t 1125899906842624))
          rw [← hr6] at HD6
          have HR6 := Lib.hid hr6
          clear hr6
          go_wp2_with fail
          rw [← hW5, ← hbb5]
          clear hW5 hbb5 s0 s1 sl
          refine HD6.out.mono ?_; rintro e w6 ⟨A6, n6, c6, q6, B6, m6, d6, aq6, C6, k6, f6, rr6, rfl, hs6, hse6, hsa6, hsea6, -, hre6, hbl6, -, -⟩
          obtain ⟨fl6, hfl6⟩ : ∃ x, x = r6.1.floor := ⟨_, rfl⟩
          obtain ⟨er6, her6⟩ : ∃ x, x = r6.2.1.err := ⟨_, rfl⟩
          obtain ⟨cn6, hcn6⟩ : ∃ x, x = r6.2.1.n := ⟨_, rfl⟩
          rw [← hfl6, ← her6, ← hcn6]
          have HE6 := Lib.hid (st_eq hse6 hfl6)
          have HER6 := Lib.hid her6; have HCN6 := Lib.hid hcn6; have HAQ6 := Lib.hid hsea6
          have HRC6 : Hid (k6 = r6.2.2.length) := Lib.hid (by rw [← hre6, recsL_len])
          have hlen6 : n6 = r6.1.ser.length := by rw [← hse6, sers_length]
          have HLN6 := Lib.hid hlen6
          clear hse6 hfl6 her6 hcn6 hsea6 hre6 hlen6 HD6
          have s0 : w6.cell? ⟨b4, 0, none⟩ = some (.slice A4 n4 c4) := cell_of_row _ _ _ _ _ _ (heap_keep HX45.out hbl6)
          have s1 : w6.cell? ⟨b4, 1, none⟩ = some (.int .i64 fl4) := cell_of_row _ _ _ _ _ _ (heap_keep HX45.out hbl6)
          have sl : b4 < w6.heap.size := (Array.getElem?_eq_some_iff.1 (heap_keep HX45.out hbl6)).1
          obtain ⟨hb6, hX6, hY6⟩ := two_laid w6 (.slice A6 n6 c6) (.int .i64 fl6) (.int .i64 er6) (.int .i64 cn6) (.slice B6 m6 d6)
          obtain ⟨W6, hW6⟩ : ∃ W6, W6 = (w6.alloc (.cells #[.slice A6 n6 c6, .int .i64 fl6] 28)).alloc (.cells #[.int .i64 er6, .int .i64 cn6, .slice B6 m6 d6] 31) := ⟨_, rfl⟩
          rw [← hW6] at hb6 hX6 hY6
          obtain ⟨b6, hbb6⟩ : ∃ b6, b6 = w6.heap.size := ⟨_, rfl⟩
          rw [← hbb6] at hX6 hY6
          have HX6 := Lib.hid hX6; have HY6 := Lib.hid hY6; have HBL6 := Lib.hid hbl6
          have HB6 := Lib.hid (below_step hbl6 hb6)
          have HS6 := Lib.hid (hs6.later hb6); have HSA6 := Lib.hid (hsa6.later hb6)
          clear hX6 hY6 hbl6 hb6 hs6 hsa6
          have HW6 := Lib.hid (below_step HW5.out HB6.out)
          have HB56 := Lib.hid (below_step HB5.out HB6.out)
          have HX46 := Lib.hid (heap_keep HX45.out HB6.out)
          obtain ⟨r7, hr7⟩ : ∃ r, r = Tr.run par ⟨sers q4 n4, fl4⟩ (opM 3 none 0 0 noMat t 1125899906842624).op 3 := ⟨_, rfl⟩
          have HD7 := Lib.hid (Do_any A4 n4 c4 q4 fl4 3 (opM 3 none 0 0 noMat t 1125899906842624) W6 (HS4.out.later HB56.out) (by have := HF4.out.1; omega) (fun i hi => Nat.le_trans (HF4.out.2 i hi) (by decide)) (HOM.out W6 3 t 1125899906842624))
          rw [← hr7] at HD7
          have HR7 := Lib.hid hr7
          clear hr7
          go_wp2_with fail
          rw [← hW6, ← hbb6]
          clear hW6 hbb6 s0 s1 sl
          refine HD7.out.mono ?_; rintro e w7 ⟨A7, n7, c7, q7, B7, m7, d7, aq7, C7, k7, f7, rr7, rfl, hs7, hse7, hsa7, hsea7, -, hre7, hbl7, -, -⟩
          obtain ⟨fl7, hfl7⟩ : ∃ x, x = r7.1.floor := ⟨_, rfl⟩
          obtain ⟨er7, her7⟩ : ∃ x, x = r7.2.1.err := ⟨_, rfl⟩
          obtain ⟨cn7, hcn7⟩ : ∃ x, x = r7.2.1.n := ⟨_, rfl⟩
          rw [← hfl7, ← her7, ← hcn7]
          have HE7 := Lib.hid (st_eq hse7 hfl7)
          have HER7 := Lib.hid her7; have HCN7 := Lib.hid hcn7; have HAQ7 := Lib.hid hsea7
          have HRC7 : Hid (k7 = r7.2.2.length) := Lib.hid (by rw [← hre7, recsL_len])
          have hlen7 : n7 = r7.1.ser.length := by rw [← hse7, sers_length]
          have HLN7 := Lib.hid hlen7
          clear hse7 hfl7 her7 hcn7 hsea7 hre7 hlen7 HD7
          have hans : r6.2.1 = r7.2.1 := by rw [HR6.out, HR7.out]; exact HK.out.2.2.1
          obtain rfl : er7 = er6 := by rw [HER7.out, HER6.out, hans]
          obtain rfl : cn7 = cn6 := by rw [HCN7.out, HCN6.out, hans]
          have HAA : Hid (sers aq6 m6 = sers aq7 m7) := Lib.hid (by rw [HAQ6.out, HAQ7.out, hans])
          clear hans
          have s0 : w7.cell? ⟨b4, 0, none⟩ = some (.slice A4 n4 c4) := cell_of_row _ _ _ _ _ _ (heap_keep HX46.out hbl7)
          have s1 : w7.cell? ⟨b4, 1, none⟩ = some (.int .i64 fl4) := cell_of_row _ _ _ _ _ _ (heap_keep HX46.out hbl7)
          have sl : b4 < w7.heap.size := (Array.getElem?_eq_some_iff.1 (heap_keep HX46.out hbl7)).1
          obtain ⟨hb7, hX7, hY7⟩ := two_laid w7 (.slice A7 n7 c7) (.int .i64 fl7) (.int .i64 er7) (.int .i64 cn7) (.slice B7 m7 d7)
          obtain ⟨W7, hW7⟩ : ∃ W7, W7 = (w7.alloc (.cells #[.slice A7 n7 c7, .int .i64 fl7] 28)).alloc (.cells #[.int .i64 er7, .int .i64 cn7, .slice B7 m7 d7] 31) := ⟨_, rfl⟩
          rw [← hW7] at hb7 hX7 hY7
          obtain ⟨b7, hbb7⟩ : ∃ b7, b7 = w7.heap.size := ⟨_, rfl⟩
          rw [← hbb7] at hX7 hY7
          have HX7 := Lib.hid hX7; have HY7 := Lib.hid hY7; have HBL7 := Lib.hid hbl7
          have HB7 := Lib.hid (below_step hbl7 hb7)
          have HS7 := Lib.hid (hs7.later hb7); have HSA7 := Lib.hid (hsa7.later hb7)
          clear hX7 hY7 hbl7 hb7 hs7 hsa7
          have HW7 := Lib.hid (below_step HW6.out HB7.out)
          have HB67 := Lib.hid (below_step HB56.out HB7.out)
          have HX47 := Lib.hid (heap_keep HX46.out HB7.out)
          have HSA67 := Lib.hid (HSA6.out.later HB7.out); have HY67 := Lib.hid (heap_keep HY6.out HB7.out)
          have HY57 := Lib.hid (heap_keep (heap_keep HY5.out HB6.out) HB7.out)
          obtain ⟨r8, hr8⟩ : ∃ r, r = Tr.run par ⟨sers q4 n4, fl4⟩ (opL xa xn xc f (t - 1) 0).op 3 := ⟨_, rfl⟩
          have HD8 := Lib.hid (Do_any A4 n4 c4 q4 fl4 3 (opL xa xn xc f (t - 1) 0) W7 (HS4.out.later HB67.out) (by have := HF4.out.1; omega) (fun i hi => Nat.le_trans (HF4.out.2 i hi) (by decide)) (HOX.out W7 (t - 1) 0 HW7.out))
          rw [← hr8] at HD8
          have HR8 := Lib.hid hr8
          clear hr8
          go_wp2_with fail
          rw [← hW7, ← hbb7]
          clear hW7 hbb7 s0 s1 sl wt1
          refine HD8.out.mono ?_; rintro e w8 ⟨A8, n8, c8, q8, B8, m8, d8, aq8, C8, k8, f8, rr8, rfl, hs8, hse8, hsa8, hsea8, -, hre8, hbl8, -, -⟩
          obtain ⟨fl8, hfl8⟩ : ∃ x, x = r8.1.floor := ⟨_, rfl⟩
          obtain ⟨er8, her8⟩ : ∃ x, x = r8.2.1.err := ⟨_, rfl⟩
          obtain ⟨cn8, hcn8⟩ : ∃ x, x = r8.2.1.n := ⟨_, rfl⟩
          rw [← hfl8, ← her8, ← hcn8]
          have HE8 := Lib.hid (st_eq hse8 hfl8)
          have HER8 := Lib.hid her8; have HCN8 := Lib.hid hcn8; have HAQ8 := Lib.hid hsea8
          have HRC8 : Hid (k8 = r8.2.2.length) := Lib.hid (by rw [← hre8, recsL_len])
          have hlen8 : n8 = r8.1.ser.length := by rw [← hse8, sers_length]
          have HLN8 := Lib.hid hlen8
          clear hse8 hfl8 her8 hcn8 hsea8 hre8 hlen8 HD8
          obtain ⟨h1, h3⟩ := HK.out.2.2.2 xa xn xc f
          have he8 : ¬ er8 = 0 := by rw [HER8.out, HR8.out]; exact h1
          have hk8 : k8 = 0 := by rw [HRC8.out, HR8.out, h3]; rfl
          subst hk8
          clear h1 h3
          obtain ⟨hb8, hX8, hY8⟩ := two_laid w8 (.slice A8 n8 c8) (.int .i64 fl8) (.int .i64 er8) (.int .i64 cn8) (.slice B8 m8 d8)
          obtain ⟨W8, hW8⟩ : ∃ W8, W8 = (w8.alloc (.cells #[.slice A8 n8 c8, .int .i64 fl8] 28)).alloc (.cells #[.int .i64 er8, .int .i64 cn8, .slice B8 m8 d8] 31) := ⟨_, rfl⟩
          rw [← hW8] at hb8 hX8 hY8
          obtain ⟨b8, hbb8⟩ : ∃ b8, b8 = w8.heap.size := ⟨_, rfl⟩
          rw [← hbb8] at hX8 hY8
          have HX8 := Lib.hid hX8; have HY8 := Lib.hid hY8; have HBL8 := Lib.hid hbl8
          have HB8 := Lib.hid (below_step hbl8 hb8)
          have HS8 := Lib.hid (hs8.later hb8); have HSA8 := Lib.hid (hsa8.later hb8)
          clear hX8 hY8 hbl8 hb8 hs8 hsa8
          have HW8 := Lib.hid (below_step HW7.out HB8.out)
          go_upto_region 19 with (fail)
          rw [← hW8, ← hbb8]
          clear hW8 hbb8
          have hy6 := heap_keep HY67.out HB8.out
          have hy7 := heap_keep HY7.out HB8.out
          have p0 : W8.cell? ⟨b5 + 1, 2, none⟩ = some (.slice B5 0 d5) := cell_of_row _ _ _ _ _ _ (heap_keep HY57.out HB8.out)
          have p1 : W8.cell? ⟨b6 + 1, 0, none⟩ = some (.int .i64 er7) := cell_of_row _ _ _ _ _ _ hy6
          have p2 : W8.cell? ⟨b6 + 1, 1, none⟩ = some (.int .i64 cn7) := cell_of_row _ _ _ _ _ _ hy6
          have p3 : W8.cell? ⟨b6 + 1, 2, none⟩ = some (.slice B6 m6 d6) := cell_of_row _ _ _ _ _ _ hy6
          have p4 : W8.cell? ⟨b7 + 1, 0, none⟩ = some (.int .i64 er7) := cell_of_row _ _ _ _ _ _ hy7
          have p5 : W8.cell? ⟨b7 + 1, 1, none⟩ = some (.int .i64 cn7) := cell_of_row _ _ _ _ _ _ hy7
          have p6 : W8.cell? ⟨b7 + 1, 2, none⟩ = some (.slice B7 m7 d7) := cell_of_row _ _ _ _ _ _ hy7
          have HAN := Lib.hid (rAns_any B6 B7 m6 d6 m7 d7 aq6 aq7 er7 cn7 W8 (HSA67.out.later HB8.out) (HSA7.out.later HB8.out) HAA.out)
          clear hy6 hy7
          go_wp2_with fail
          refine HAN.out.mono ?_; rintro e v9 ⟨rfl, hv9⟩
          have HV9 := Lib.hid (below_step HW8.out hv9)
          have y0 : v9.cell? ⟨b8 + 1, 0, none⟩ = some (.int .i64 er8) := cell_of_row _ _ _ _ _ _ (heap_keep HY8.out hv9)
          have y1 : v9.cell? ⟨b4, 1, none⟩ = some (.int .i64 fl4) := cell_of_row _ _ _ _ _ _ (heap_keep (heap_keep HX47.out HB8.out) hv9)
          have e8a : (er8 != 0) = true := by simpa using he8
          have e8b : (er8 == 0) = false := by simpa using he8
          have e8c : decide (er8 = 0) = false := decide_eq_false he8
          have hfl := HFL.out
          have f1 : decide (t ≤ fl4) = true := decide_eq_true hfl
          clear p0 p1 p2 p3 p4 p5 p6 hv9
          go_wp2_with fail
          go_ret
          exact ⟨rfl, HV9.out⟩
      · rw [if_neg hT] at hr4
        obtain rfl : er4 = 1 := by rw [HER4.out, hr4]
        have HEQ : Hid ((⟨sers q4 n4, fl4⟩ : Tr.Stt (List Lab)) = ⟨sers q n', fl⟩) := Lib.hid (by rw [HE4.out, hr4])
        clear hr4 hT
        obtain ⟨hb4, hX4, hY4⟩ := two_laid w4 (.slice A4 n4 c4) (.int .i64 fl4) (.int .i64 1) (.int .i64 cn4) (.slice B4 m4 d4)
        obtain ⟨W4, hW4⟩ : ∃ W4, W4 = (w4.alloc (.cells #[.slice A4 n4 c4, .int .i64 fl4] 28)).alloc (.cells #[.int .i64 1, .int .i64 cn4, .slice B4 m4 d4] 31) := ⟨_, rfl⟩
        rw [← hW4] at hb4 hX4 hY4
        obtain ⟨b4, hbb4⟩ : ∃ b4, b4 = w4.heap.size := ⟨_, rfl⟩
        rw [← hbb4] at hX4 hY4
        have HX4 := Lib.hid hX4; have HY4 := Lib.hid hY4; have HBL4 := Lib.hid hbl4
        have HB4 := Lib.hid (below_step hbl4 hb4)
        have HS4 := Lib.hid (hs4.later hb4); have HSA4 := Lib.hid (hsa4.later hb4)
        clear hX4 hY4 hbl4 hb4 hs4 hsa4
        have HW4 := Lib.hid (below_step HS.out.bel HB4.out)
        have HSM1 := Lib.hid (SSame_any A4 A' n4 n' c4 c' q4 q fl4 fl W4 HS4.out (HS.out.srs.later HB4.out) true ⟨fun _ => ⟨by have h := HEQ.out; injection h, by have h := HEQ.out; injection h⟩, fun _ => rfl⟩)
        go_upto_region 14 with (fail)
        rw [← hW4, ← hbb4]
        clear hW4 hbb4
        have x0 : W4.cell? ⟨b4 + 1, 0, none⟩ = some (.int .i64 1) := cell_of_row _ _ _ _ _ _ HY4.out
        have x1 : W4.cell? ⟨b4, 0, none⟩ = some (.slice A4 n4 c4) := cell_of_row _ _ _ _ _ _ HX4.out
        have x2 : W4.cell? ⟨b4, 1, none⟩ = some (.int .i64 fl4) := cell_of_row _ _ _ _ _ _ HX4.out
        have x3 : W4.cell? ⟨sb, 0, none⟩ = some (.slice A' n' c') := cell_of_row _ _ _ _ _ _ (heap_keep HS.out.sk HB4.out)
        have x4 : W4.cell? ⟨sb, 1, none⟩ = some (.int .i64 fl) := cell_of_row _ _ _ _ _ _ (heap_keep HS.out.sk HB4.out)
        go_wp2_with fail
        refine HSM1.out.mono ?_; rintro e v1 ⟨rfl, hv1⟩
        have HFIN := Lib.hid (below_step HW4.out hv1)
        clear hv1
        go_wp2_with fail
        go_ret
        exact ⟨rfl, HFIN.out⟩
set_option maxRecDepth 100000 in
theorem truthKeeps_walk {H : Type} {enc : TypeId × Value → H} {r : Reach} {b0 : Nat} {a : Value} {d : DataW H} {p : List MemPlace} (w : World)
    (hv : Value.okWide Try.prog w r b0 22 a) (h : DataW.Trod enc Try.prog w 0 (fun _ => true) true 22 a d p) (t : Int) (_ht : (Lit.int .i64 t).wf = true) (xa : Option Addr) (xn xc : Nat) (f : Nat → Lab) (hn0 : xn ≤ maxLen) (_hz : ∀ i, i < xn → (f i).1.size ≤ maxLen ∧ (f i).2.size ≤ maxLen) (hl : LabRow w xa xn f) (hx : xa = none → xn = 0 ∧ xc = 0) (_hq : xn ≤ xc) :
    Calls Try.prog 8 #[a, .int .i64 t, .slice xa xn xc] w fun e w' => e = .returned (.bool true) ∧ Below w.heap.size w w' := by
  obtain ⟨A, n, c, o, rfl, hn, hA, ho⟩ := open_ops hv h
  exact truthKeeps_walk0 w A n c hn o hA ho xa xn xc f hn0 hl hx t
end Go.Proofs.Ytidfanmfibbiiaa
