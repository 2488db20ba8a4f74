/-
  SimfsRoom: the walk.
-/
import Derived.Test.YtmibfgeigolmdaaSgG
import Derived.BigQuiet
namespace Go.Proofs.Ytmibfgeigolmdaa
open Go.RowKit
set_option maxRecDepth 100000 in
set_option maxHeartbeats 8000000 in
theorem simfsRoom_walk0 (W : World) (room : Int) (hroom : room ≤ 9223372036854775807) (A : Option Addr) (n c : Nat) (hn : n ≤ maxLen) (o : Nat → ActAt) (hA : Row 5 (fun i => (o i).cell) W A n) (ho : ∀ i, i < n → ActIn W (o i)) :
    Calls Try.prog 4 #[.int .i64 room, .slice A n c] W fun e w' => e = .returned (.bool true) ∧ Below W.heap.size W w' := by
  have HA := Lib.hid hA; have HO := Lib.hid ho
  have HFW := Lib.hid (fun U (hb : Below W.heap.size W U) => fewActs_any A n c hn o U (hA.later hb) (fun i hi => (ho i hi).later hb))
  clear hA ho
  go_enter Try.func4, Try.ntmps4
  go_wp2_with fail
  refine (works_any W).mono ?_; rintro e w1 ⟨rfl, hb1⟩
  have HB1 := Lib.hid hb1; clear hb1
  go_wp2_with fail
  refine (runs_new HB1.out room hroom).mono ?_; rintro e w2 ⟨fb, rfl, hr, hb2⟩
  have HR0 := Lib.hid hr; clear hr hb2
  obtain ⟨base, hbase⟩ : ∃ base, base = w1.heap.size := ⟨_, rfl⟩
  rw [← hbase] at HR0
  clear hbase
  go_wp2_with fail
  refine (HFW.out _ HR0.out.bel).mono ?_; rintro e w3 ⟨rfl, hb3⟩
  have HR1 := Lib.hid (HR0.out.far hb3); clear hb3 HR0
  cases hfew : fewAs o n
  · clear hfew
    go_wp2_with fail
    go_ret
    exact ⟨rfl, HR1.out.bel⟩
  obtain ⟨hn40, hfo⟩ := fewAs_yes hfew
  have HFO := Lib.hid hfo
  clear hfew hfo
  go_wp2_with fail
  go_loopw [8, 9, 10, 11, 12, 13] (fun now i _ _ _ _ wr => ∃ (k : Nat) (S : Sf.St), k ≤ n ∧ i = .int .i64 k ∧ now = .int .i64 S.room ∧ Runs W base fb (300 * k) k S wr) (fun _ i _ _ _ _ _ => n - (intOf i).toNat)
  case atStart => exact ⟨0, _, Nat.zero_le _, rfl, rfl, HR1.out⟩
  case round =>
    obtain ⟨k, S, hkn, rfl, rfl, hr⟩ := hrel
    have HR := Lib.hid hr; clear hr
    have i0 : (0 : Int) ≤ (k : Int) := Int.natCast_nonneg _
    by_cases hlt : k < n
    · have i1 : (k : Int) < (n : Int) := by omega
      have d1 : decide ((k : Int) < (n : Int)) = true := decide_eq_true i1
      have hk1 : k + 1 ≤ n := hlt
      have HKL := Lib.hid hk1; have HLT := Lib.hid hlt
      clear hkn hk1 HR1 HB1 HFW
      go_wp2_with fail
      refine (HR.out.size (by omega)).mono ?_; rintro e w5 ⟨rfl, hb5⟩
      have R5 := Lib.hid (HR.out.far hb5)
      clear hb5
      go_wp2_with fail
      refine (Steps_any R5.out.fs).mono ?_; rintro e w6 ⟨rfl, rfl⟩
      go_wp2_with fail
      refine (R5.out.list).mono ?_; rintro e w7 ⟨A7, c7, rfl, ht7, hb7⟩
      have R7 := Lib.hid (R5.out.far hb7)
      have hlf := R5.out.few
      obtain ⟨l, hl⟩ : ∃ l, l = Sf.list S.names := ⟨_, rfl⟩
      rw [← hl] at ht7 hlf ⊢
      have HLL := Lib.hid hl
      have HT7 := Lib.hid (ht7.from_ R5.out.bel.size)
      obtain ⟨m, hm⟩ : ∃ m, m = l.length := ⟨_, rfl⟩
      have HLM := Lib.hid hm
      rw [← hm] at HT7 hlf ⊢
      clear ht7 hb7 hl R5 HR hm
      obtain ⟨ad, rfl, cc0, cc⟩ := HA.out.at_ R7.out.bel hlt
      have x0 : w7.cell? (ad.add (k * 5)) = some (.int .i64 (o k).k) := cc0 (by omega)
      have x1 : w7.cell? ⟨(ad.add (k * 5)).block, (ad.add (k * 5)).off + 1, none⟩ = some (.string (o k).a) := cc 1 (by omega) (by omega)
      have x2 : w7.cell? ⟨(ad.add (k * 5)).block, (ad.add (k * 5)).off + 2, none⟩ = some (.string (o k).b) := cc 2 (by omega) (by omega)
      have x3 : w7.cell? ⟨(ad.add (k * 5)).block, (ad.add (k * 5)).off + 3, none⟩ = some (.int .i64 (o k).n) := cc 3 (by omega) (by omega)
      have x4 : w7.cell? ⟨(ad.add (k * 5)).block, (ad.add (k * 5)).off + 4, none⟩ = some (.slice (o k).ka (o k).kp.n (o k).kc) := cc 4 (by omega) (by omega)
      clear cc0 cc
      have HC := Lib.hid (R7.out.act (by omega) (by omega) (HFO.out k hlt) (HO.out k hlt))
      go_wp2_with fail
      refine HC.out.mono ?_; rintro e w8 ⟨y, hy, rfl, hr, hst⟩
      have R8 := Lib.hid hr
      have HT8 := Lib.hid (HT7.out.stays hst.st)
      have HER : Hid ((S.act (o k) y).2 ≠ 0 → Sf.Seen S (S.act (o k) y).1) := Lib.hid (fun h => Sf.act_errs R7.out.ok (o k) hy h)
      have hroomS := Sf.act_room S (o k) y
      have HNK := Lib.hid (And.intro R7.out.ok.nice R7.out.keys)
      have HAP : Hid ((o k).k = 1 → (S.act (o k) y).2 = 0 → (S.act (o k) y).1.total = S.total + (o k).b.size ∧ ((S.act (o k) y).1.total : Int) ≤ (S.act (o k) y).1.room) := Lib.hid (fun h1 h2 => by
        have e : S.act (o k) y = S.append (o k).a (o k).b := by
          unfold Sf.St.act
          rw [if_neg (by omega), if_pos h1]
        rw [hroomS, if_neg (by omega)]
        rw [e] at h2 ⊢
        exact Sf.total_append HNK.out.1 HNK.out.2 _ _ h2)
      have HTO := Lib.hid R7.out.ok.total
      generalize hSR : S.act (o k) y = SR at *
      obtain ⟨S2, e2⟩ := SR
      simp only [] at HER HAP hroomS R8
      clear hr hst hy HC x0 x1 x2 x3 x4 R7 HT7 hSR HNK
      have HRS := Lib.hid hroomS
      clear hroomS
      have HNW0 : Hid ((o k).k = 7 → max (o k).n 0 = S2.room) := Lib.hid (fun h => by rw [HRS.out, if_pos h])
      have HNW1 : Hid ((o k).k ≠ 7 → S.room = S2.room) := Lib.hid (fun h => by rw [HRS.out, if_neg h])
      obtain ⟨ad2, hA2, cc0, cc⟩ := HA.out.at_ R8.out.bel HLT.out
      cases hA2
      have y0 : w8.cell? (ad.add (k * 5)) = some (.int .i64 (o k).k) := cc0 (by omega)
      have y3 : w8.cell? ⟨(ad.add (k * 5)).block, (ad.add (k * 5)).off + 3, none⟩ = some (.int .i64 (o k).n) := cc 3 (by omega) (by omega)
      clear cc0 cc
      by_cases h7 : (o k).k = 7
      · have d7 : decide ((o k).k = 7) = true := decide_eq_true h7
        have b7 : ((o k).k == 7) = true := by simpa using h7
        have h1 : ¬ (o k).k = 1 := by omega
        go_upto_region 18 with (fail)
        rw [HNW0.out h7]
        clear h7 HNW0 HNW1 d7 b7
        by_cases he : e2 = 0
        · subst he
          clear HER HAP y3
          have g1 : decide ((o k).k = 1) = false := decide_eq_false h1
          have g2 : ((o k).k == 1) = false := by simpa using h1
          clear h1
          go_wp2_with fail
          go_quiet (fail)
          have R13 := Lib.hid (fun q => R8.out.far (below_drewN (Below.refl _ _) q))
          go_wp2_with fail
          go_roundw
          case rel => exact ⟨k + 1, S2, HKL.out, by go_num, rfl, by rw [Nat.mul_succ]; exact (R13.out _)⟩
          case measure => simp [intOf]; omega
        · clear h1
          have he0 : (e2 != 0) = true := by simpa using he
          have he1 : (e2 == 0) = false := by simpa using he
          have he2 : decide (e2 = 0) = false := decide_eq_false he
          have hse := HER.out he
          have HTT := Lib.hid hse.total
          have HSS := Lib.hid hse.steps
          have HNN := Lib.hid hse.nam
          clear he hse HER HAP y0 y3
          have q0 : (((S.total : Nat) : Int) != ((S.total : Nat) : Int)) = false := by simp
          have q1 : (((S.total : Nat) : Int) == ((S.total : Nat) : Int)) = true := by simp
          have q2 : (S.steps != S.steps) = false := by simp
          have q3 : (S.steps == S.steps) = true := by simp
          go_wp2_with fail
          refine (R8.out.size (by omega)).mono ?_; rintro e w9 ⟨rfl, hb9⟩
          have R9 := Lib.hid (R8.out.far hb9)
          have HT9 := Lib.hid (HT8.out.far hb9)
          clear hb9 R8 HT8
          rw [HTT.out]
          go_wp2_with fail
          refine (Steps_any R9.out.fs).mono ?_; rintro e w10 ⟨rfl, rfl⟩
          rw [HSS.out]
          go_wp2_with fail
          refine (R9.out.list).mono ?_; rintro e w11 ⟨A11, c11, rfl, ht11, hb11⟩
          rw [HNN.out, ← HLL.out] at ht11 ⊢
          have R11 := Lib.hid (R9.out.far hb11)
          have HTX := Lib.hid (Texts_any A7 A11 c7 c11 l l (by rw [← HLM.out]; omega) (by rw [← HLM.out]; omega) w11 (HT9.out.far hb11).row ht11.row)
          rw [← HLM.out] at HTX ⊢
          rw [decide_eq_true (show l = l from rfl)] at HTX
          clear ht11 hb11 R9 HT9 q0 q1 q2 q3
          go_wp2_with fail
          refine HTX.out.mono ?_; rintro e w12 ⟨rfl, hb12⟩
          have R12 := Lib.hid (R11.out.far hb12)
          clear hb12 R11 HTX
          obtain ⟨ad2, hA2, cc0, cc⟩ := HA.out.at_ R12.out.bel HLT.out
          cases hA2
          have y0 : w12.cell? (ad.add (k * 5)) = some (.int .i64 (o k).k) := cc0 (by omega)
          have y3 : w12.cell? ⟨(ad.add (k * 5)).block, (ad.add (k * 5)).off + 3, none⟩ = some (.int .i64 (o k).n) := cc 3 (by omega) (by omega)
          clear cc0 cc
          clear y3
          by_cases h1 : (o k).k = 1
          · have g1 : decide ((o k).k = 1) = true := decide_eq_true h1
            have g2 : ((o k).k == 1) = true := by simpa using h1
            clear h1
            go_wp2_with fail
            go_quiet (fail)
            have R13 := Lib.hid (fun q => R12.out.far (below_drewN (Below.refl _ _) q))
            go_wp2_with fail
            go_roundw
            case rel => exact ⟨k + 1, S2, HKL.out, by go_num, rfl, by rw [Nat.mul_succ]; exact (R13.out _)⟩
            case measure => simp [intOf]; omega
          · have g1 : decide ((o k).k = 1) = false := decide_eq_false h1
            have g2 : ((o k).k == 1) = false := by simpa using h1
            clear h1
            go_wp2_with fail
            go_quiet (fail)
            have R13 := Lib.hid (fun q => R12.out.far (below_drewN (Below.refl _ _) q))
            go_wp2_with fail
            go_roundw
            case rel => exact ⟨k + 1, S2, HKL.out, by go_num, rfl, by rw [Nat.mul_succ]; exact (R13.out _)⟩
            case measure => simp [intOf]; omega
      · have d7 : decide ((o k).k = 7) = false := decide_eq_false h7
        have b7 : ((o k).k == 7) = false := by simpa using h7
        go_upto_region 18 with (fail)
        rw [HNW1.out h7]
        clear h7 HNW0 HNW1 d7 b7
        by_cases he : e2 = 0
        · subst he
          by_cases h1 : (o k).k = 1
          · obtain ⟨hto, hle⟩ := HAP.out h1 rfl
            have HTT := Lib.hid hto
            have hle0 := hle
            have htot := HTO.out
            have hfb := (fewA_yes (HFO.out k HLT.out)).2.1
            rw [h1] at y0
            have HY : Hid (∀ U, Below w8.heap.size w8 U → U.cell? (ad.add (k * 5)) = some (.int .i64 1) ∧ U.cell? ⟨(ad.add (k * 5)).block, (ad.add (k * 5)).off + 2, none⟩ = some (.string (o k).b)) := Lib.hid (fun U hU => by
              obtain ⟨ad3, hA3, cc0, cc⟩ := HA.out.at_ (below_step R8.out.bel hU) HLT.out
              cases hA3
              exact ⟨cell_keep y0 hU, cc 2 (by omega) (by omega)⟩)
            have HSZ : Hid (∀ U, Below w8.heap.size w8 U → Calls Try.prog 18 #[.pointer (some ⟨fb, 0, none⟩)] U fun e w' => e = .returned (.int .i64 ((S2.total : Nat) : Int)) ∧ Below U.heap.size U w') := Lib.hid (fun U hU => (R8.out.far hU).size (by omega))
            have hwr : IntKind.i64.wrap ((S.total : Int) + ((o k).b.size : Int)) = ((S2.total : Nat) : Int) := by rw [hto, Int.natCast_add]; exact IntWalk.i64_in _ (by omega)
            have d0 : decide (S2.room < ((S2.total : Nat) : Int)) = false := decide_eq_false (by omega)
            clear h1 HER HAP hto hle hle0 htot hfb y3 HTO
            generalize hbz : (o k).b.size = bz at *
            generalize hob : (o k).b = ob at *
            generalize S.total = t0 at *
            generalize S2.total = t1 at *
            generalize hrm : S2.room = rm at *
            have i2 : (k : Int) ≤ (n : Int) := by omega
            go_upto_region 20 with (fail)
            refine plain_T (fun U => Below w8.heap.size w8 U) [] (by kernel_rfl) ?_
            have HD : Hid (Below w8.heap.size w8 w8.drew) := Lib.hid (Below.refl _ _).drew
            generalize w8.drew = wd at HD ⊢
            refine wpAnyT_pick (S := (fun U => Below w8.heap.size w8 U)) (by kernel_rfl) Only.panic Only.keepsIn (w := wd) HD.out [0, 1, 2, 3, 4, 5, 6, 7, 8, 9, 10, 11, 13] 16 _ _ (by kernel_rfl) ?_
            refine PickT.value (d := some 85) (.slice (some ad) n c) rfl rfl (by kernel_rfl) (fun U hU => (by go_simp)) ?_
            refine PickT.value (d := some 86) (.int .i64 (k : Int)) rfl rfl (by kernel_rfl) (fun U hU => (by go_simp)) ?_
            refine PickT.value (d := some 87) (.pointer (some (ad.add (k * 5)))) rfl rfl (by kernel_rfl) (fun U hU => (by go_simp)) ?_
            refine PickT.value (d := some 88) (.pointer (some (ad.add (k * 5)))) rfl rfl (by kernel_rfl) (fun U hU => (by go_simp)) ?_
            refine PickT.value (d := some 89) (.int .i64 1) rfl rfl (by kernel_rfl) (fun U hU => (by obtain ⟨h0, h2⟩ := HY.out U hU; go_simp)) ?_
            refine PickT.value (d := some 90) (.bool true) rfl rfl (by kernel_rfl) (fun U hU => (by go_simp)) ?_
            refine PickT.value (d := some 91) (.bool true) rfl rfl (by kernel_rfl) (fun U hU => (by go_simp)) ?_
            refine PickT.value (d := some 92) (.int .i64 0) rfl rfl (by kernel_rfl) (fun U hU => (by go_simp)) ?_
            refine PickT.value (d := some 93) (.bool true) rfl rfl (by kernel_rfl) (fun U hU => (by go_simp)) ?_
            refine PickT.value (d := some 94) (.bool true) rfl rfl (by kernel_rfl) (fun U hU => (by go_simp)) ?_
            refine PickT.value (d := some 95) (.bool true) rfl rfl (by kernel_rfl) (fun U hU => (by go_simp)) ?_
            refine PickT.value (d := some 96) (.pointer (some ⟨fb, 0, none⟩)) rfl rfl (by kernel_rfl) (fun U hU => (by go_simp)) ?_
            refine PickT.value (d := some 98) (.int .i64 rm) rfl rfl (by kernel_rfl) (fun U hU => (by go_simp)) ?_
            simp only [PickT, Act.put, List.setIfInBounds_toArray, List.set_cons_zero, List.set_cons_succ]
            refine wpAnyT_one (i := 12) (by kernel_rfl) rfl (by kernel_rfl) ?_
            intro K hK
            unfold Oper.wp
            go_simp
            refine (HSZ.out _ HD.out).mono ?_; rintro e w9 ⟨rfl, hb9⟩
            have HD9 := Lib.hid (below_step HD.out hb9)
            clear hb9
            refine hK _ _ (fun _ => HD9.out) ?_
            clear hK K
            refine wpAnyT_pick (S := (fun U => Below w8.heap.size w8 U)) (by kernel_rfl) Only.panic Only.keepsIn (w := w9) HD9.out [14, 15, 16, 18, 19, 20, 21, 22, 23, 24, 25] 4 _ _ (by kernel_rfl) ?_
            refine PickT.value (d := some 99) (.bool false) rfl rfl (by kernel_rfl) (fun U hU => (by go_simp)) ?_
            refine PickT.value (d := some 100) (.bool false) rfl rfl (by kernel_rfl) (fun U hU => (by go_simp)) ?_
            refine PickT.value (d := some 101) (.pointer (some ⟨fb, 0, none⟩)) rfl rfl (by kernel_rfl) (fun U hU => (by go_simp)) ?_
            refine PickT.value (d := some 103) (.int .i64 (t0 : Int)) rfl rfl (by kernel_rfl) (fun U hU => (by go_simp)) ?_
            refine PickT.value (d := some 104) (.slice (some ad) n c) rfl rfl (by kernel_rfl) (fun U hU => (by go_simp)) ?_
            refine PickT.value (d := some 105) (.int .i64 (k : Int)) rfl rfl (by kernel_rfl) (fun U hU => (by go_simp)) ?_
            refine PickT.value (d := some 106) (.pointer (some (ad.add (k * 5)))) rfl rfl (by kernel_rfl) (fun U hU => (by go_simp)) ?_
            refine PickT.value (d := some 107) (.pointer (some ⟨(ad.add (k * 5)).block, (ad.add (k * 5)).off + 2, none⟩)) rfl rfl (by kernel_rfl) (fun U hU => (by go_simp)) ?_
            refine PickT.value (d := some 108) (.string ob) rfl rfl (by kernel_rfl) (fun U hU => (by obtain ⟨h0, h2⟩ := HY.out U hU; go_simp)) ?_
            refine PickT.value (d := some 109) (.int .i64 (bz : Int)) rfl rfl (by kernel_rfl) (fun U hU => (by go_simp)) ?_
            refine PickT.value (d := some 110) (.int .i64 (t1 : Int)) rfl rfl (by kernel_rfl) (fun U hU => (by go_simp)) ?_
            simp only [PickT, Act.put, List.setIfInBounds_toArray, List.set_cons_zero, List.set_cons_succ]
            refine wpAnyT_one (i := 17) (by kernel_rfl) rfl (by kernel_rfl) ?_
            intro K hK
            unfold Oper.wp
            go_simp
            refine (HSZ.out _ HD9.out).mono ?_; rintro e w10 ⟨rfl, hb10⟩
            have HD10 := Lib.hid (below_step HD9.out hb10)
            clear hb10
            refine hK _ _ (fun _ => HD10.out) ?_
            clear hK K
            refine wpAnyT_pick (S := (fun U => Below w8.heap.size w8 U)) (by kernel_rfl) Only.panic Only.keepsIn (w := w10) HD10.out [26, 27, 28] 0 _ _ (by kernel_rfl) ?_
            refine PickT.value (d := some 111) (.bool false) rfl rfl (by kernel_rfl) (fun U hU => (by go_simp)) ?_
            refine PickT.value (d := some 112) (.bool false) rfl rfl (by kernel_rfl) (fun U hU => (by go_simp)) ?_
            refine PickT.value (d := some 113) (.bool false) rfl rfl (by kernel_rfl) (fun U hU => (by go_simp)) ?_
            simp only [PickT, Act.put, List.setIfInBounds_toArray, List.set_cons_zero, List.set_cons_succ]
            refine wpAnyT_done (by kernel_rfl) ?_ _
            refine only_mk ?_
            have R10 := Lib.hid (R8.out.far HD10.out)
            subst hrm
            go_wp2_with fail
            go_roundw
            case rel => exact ⟨k + 1, S2, HKL.out, by go_num, rfl, by rw [Nat.mul_succ]; exact R10.out⟩
            case measure => simp [intOf]; omega
          · clear HER HAP y3
            have g1 : decide ((o k).k = 1) = false := decide_eq_false h1
            have g2 : ((o k).k == 1) = false := by simpa using h1
            clear h1
            go_wp2_with fail
            go_quiet (fail)
            have R13 := Lib.hid (fun q => R8.out.far (below_drewN (Below.refl _ _) q))
            go_wp2_with fail
            go_roundw
            case rel => exact ⟨k + 1, S2, HKL.out, by go_num, rfl, by rw [Nat.mul_succ]; exact (R13.out _)⟩
            case measure => simp [intOf]; omega
        · have he0 : (e2 != 0) = true := by simpa using he
          have he1 : (e2 == 0) = false := by simpa using he
          have he2 : decide (e2 = 0) = false := decide_eq_false he
          have hse := HER.out he
          have HTT := Lib.hid hse.total
          have HSS := Lib.hid hse.steps
          have HNN := Lib.hid hse.nam
          clear he hse HER HAP y0 y3
          have q0 : (((S.total : Nat) : Int) != ((S.total : Nat) : Int)) = false := by simp
          have q1 : (((S.total : Nat) : Int) == ((S.total : Nat) : Int)) = true := by simp
          have q2 : (S.steps != S.steps) = false := by simp
          have q3 : (S.steps == S.steps) = true := by simp
          go_wp2_with fail
          refine (R8.out.size (by omega)).mono ?_; rintro e w9 ⟨rfl, hb9⟩
          have R9 := Lib.hid (R8.out.far hb9)
          have HT9 := Lib.hid (HT8.out.far hb9)
          clear hb9 R8 HT8
          rw [HTT.out]
          go_wp2_with fail
          refine (Steps_any R9.out.fs).mono ?_; rintro e w10 ⟨rfl, rfl⟩
          rw [HSS.out]
          go_wp2_with fail
          refine (R9.out.list).mono ?_; rintro e w11 ⟨A11, c11, rfl, ht11, hb11⟩
          rw [HNN.out, ← HLL.out] at ht11 ⊢
          have R11 := Lib.hid (R9.out.far hb11)
          have HTX := Lib.hid (Texts_any A7 A11 c7 c11 l l (by rw [← HLM.out]; omega) (by rw [← HLM.out]; omega) w11 (HT9.out.far hb11).row ht11.row)
          rw [← HLM.out] at HTX ⊢
          rw [decide_eq_true (show l = l from rfl)] at HTX
          clear ht11 hb11 R9 HT9 q0 q1 q2 q3
          go_wp2_with fail
          refine HTX.out.mono ?_; rintro e w12 ⟨rfl, hb12⟩
          have R12 := Lib.hid (R11.out.far hb12)
          clear hb12 R11 HTX
          obtain ⟨ad2, hA2, cc0, cc⟩ := HA.out.at_ R12.out.bel HLT.out
          cases hA2
          have y0 : w12.cell? (ad.add (k * 5)) = some (.int .i64 (o k).k) := cc0 (by omega)
          have y3 : w12.cell? ⟨(ad.add (k * 5)).block, (ad.add (k * 5)).off + 3, none⟩ = some (.int .i64 (o k).n) := cc 3 (by omega) (by omega)
          clear cc0 cc
          clear y3
          by_cases h1 : (o k).k = 1
          · have g1 : decide ((o k).k = 1) = true := decide_eq_true h1
            have g2 : ((o k).k == 1) = true := by simpa using h1
            clear h1
            go_wp2_with fail
            go_quiet (fail)
            have R13 := Lib.hid (fun q => R12.out.far (below_drewN (Below.refl _ _) q))
            go_wp2_with fail
            go_roundw
            case rel => exact ⟨k + 1, S2, HKL.out, by go_num, rfl, by rw [Nat.mul_succ]; exact (R13.out _)⟩
            case measure => simp [intOf]; omega
          · have g1 : decide ((o k).k = 1) = false := decide_eq_false h1
            have g2 : ((o k).k == 1) = false := by simpa using h1
            clear h1
            go_wp2_with fail
            go_quiet (fail)
            have R13 := Lib.hid (fun q => R12.out.far (below_drewN (Below.refl _ _) q))
            go_wp2_with fail
            go_roundw
            case rel => exact ⟨k + 1, S2, HKL.out, by go_num, rfl, by rw [Nat.mul_succ]; exact (R13.out _)⟩
            case measure => simp [intOf]; omega
    · have d1 : decide ((k : Int) < (n : Int)) = false := decide_eq_false (by omega)
      go_wp2_with fail
      go_ret
      exact ⟨rfl, HR.out.bel⟩
set_option maxRecDepth 100000 in
theorem simfsRoom_walk {H : Type} {enc : TypeId × Value → H} {r0 : Reach} {b0 : Nat} {v0 : Value} {d0 : DataW H} {p0 : List MemPlace} (w : World) (room : Int) (hr : (Lit.int .i64 room).wf = true)
    (o0 : Value.okWide Try.prog w r0 b0 22 v0) (h0 : DataW.Trod enc Try.prog w 0 (fun _ => true) true 22 v0 d0 p0) :
    Calls Try.prog 4 #[.int .i64 room, v0] w fun e w' => e = .returned (.bool true) ∧ Below w.heap.size w w' := by
  obtain ⟨A, n, c, o, rfl, hn, hA, ho⟩ := open_acts o0 h0
  exact simfsRoom_walk0 w room (i64_bd hr).2 A n c hn o hA ho
end Go.Proofs.Ytmibfgeigolmdaa
