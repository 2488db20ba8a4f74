/-
  TruthRises: the walk.
-/
import Derived.Test.YtidfanmfibbiiaaTrHe
namespace Go.Proofs.Ytidfanmfibbiiaa
open Go.RowKit
set_option maxRecDepth 100000 in
set_option maxHeartbeats 8000000 in
theorem truthRises_walk0 (W : World) (A : Option Addr) (n c : Nat) (hn : n ≤ maxLen) (o : Nat → OpAt) (hA : Row 7 (fun i => (o i).cell) W A n) (ho : ∀ i, i < n → OpIn W (o i)) (t : Int) :
    Calls Try.prog 5 #[.slice A n c, .int .i64 t] W fun e w' => e = .returned (.bool true) ∧ Below W.heap.size W w' := by
  have HA := Lib.hid hA; have HO := Lib.hid ho
  have HWO := Lib.hid (works_any W)
  have HFW := Lib.hid (fun U (hb : Below W.heap.size W U) => FewOps_any A n c hn o U (hA.later hb) (fun i hi => (ho i hi).later hb))
  clear hA ho
  go_enter Try.func5, Try.ntmps5
  go_wp2_with fail
  refine HWO.out.mono ?_; rintro e w1 ⟨rfl, hb1⟩
  have HB1 := Lib.hid hb1; clear hb1 HWO
  go_wp2_with fail
  refine (HFW.out _ HB1.out).mono ?_; rintro e w2 ⟨rfl, hb2⟩
  have HB2 := Lib.hid (below_step HB1.out hb2); clear hb2 HFW
  cases hfew : fewOs o n
  · clear hfew
    go_wp2_with fail
    go_ret
    exact ⟨rfl, HB2.out⟩
  obtain ⟨hn40, hfo⟩ := fewOs_yes hfew
  have HSM := Lib.hid (fun i (hi : i < n) => (HO.out i hi).sm (hfo i hi))
  clear hfew hfo HO
  go_wp2_with fail
  obtain ⟨w3, hw3⟩ : ∃ w3, w3 = w2.alloc (.cells #[.slice none 0 0, .int .i64 0] 28) := ⟨_, rfl⟩
  obtain ⟨sb, hsb⟩ : ∃ sb, sb = w2.heap.size := ⟨_, rfl⟩
  have hb3 : Below w2.heap.size w2 w3 := by rw [hw3]; exact (Below.refl _ _).alloc (Nat.le_refl _) _
  have HST : Hid (StAt W w3 sb none 0 0 q0 0) := Lib.hid ⟨below_step HB2.out hb3, by rw [hsb]; exact HB2.out.size, by rw [hw3, hsb]; exact heap_alloc_new w2 _, ⟨World.ownsRow_nil _ _ _ _, by omega, fun i hi => by omega, fun i j hi => by omega⟩, Tr.ok_empty⟩
  rw [← hw3, ← hsb]
  clear hw3 hsb hb3
  go_loopw [8, 9, 10, 11] (fun i _ _ _ wr => ∃ (k : Nat) (A' : Option Addr) (n' c' : Nat) (q : Nat → SerAt) (fl : Int), k ≤ n ∧ i = .int .i64 k ∧ StAt W wr sb A' n' c' q fl) (fun i _ _ _ _ => n - (intOf i).toNat)
  case atStart => exact ⟨0, none, 0, 0, q0, 0, by omega, rfl, HST.out⟩
  case round =>
    obtain ⟨k, A', n', c', q, fl, hkn, rfl, hst⟩ := hrel
    have HS := Lib.hid hst; clear hst HST
    have i0 : (0 : Int) ≤ (k : Int) := Int.natCast_nonneg _
    by_cases hlt : k < n
    · have i1 : (k : Int) < (n : Int) := by omega
      have d1 : decide ((k : Int) < (n : Int)) = true := decide_eq_true i1
      obtain ⟨ad, rfl, cc0, cc⟩ := HA.out.at_ HS.out.bel hlt
      obtain ⟨hf1, hf2⟩ := ok_few HS.out.ok
      have HDO := Lib.hid (fun U (hb : Below wr.heap.size wr U) => Do_any A' n' c' q fl 3 (o k) U (HS.out.far hb).srs (by omega) (fun i hi => Nat.le_trans (hf2 i hi) (by decide)) ((HSM.out k hlt).later (HS.out.far hb).bel))
      have HOK := Lib.hid (Tr.ok_run par_good HS.out.ok (o k).op 3)
      have HFU := Lib.hid (Tr.floor_up (p := par) (S := ⟨sers q n', fl⟩) (o k).op 3)
      generalize hr : Tr.run par ⟨sers q n', fl⟩ (o k).op 3 = r at *
      clear hr
      go_wp2_with fail
      refine plain_T_cut (fun U => Below wr.heap.size wr U) [] (fun a0 a2 w2 => ∃ (p p2 : Nat) (A9 : Option Addr) (n9 c9 : Nat) (q9 : Nat → SerAt) (B9 : Option Addr) (m9 d9 : Nat) (C9 : Option Addr) (k9 f9 : Nat) (rr9 : Nat → RecAt),
        (sers q9 n9 = r.1.ser ∧ recsL rr9 k9 = r.2.2 ∧ k9 ≤ 1000) ∧ RG wr (some (p, #[.slice A9 n9 c9, .int .i64 r.1.floor])) (some (p2, #[.int .i64 r.2.1.err, .int .i64 r.2.1.n, .slice B9 m9 d9])) (DW W.heap.size A9 n9 c9 q9 C9 k9 f9 rr9) w2 ∧
        a2 = puts a0 [(some 33, .agg #[.slice A' n' c', .int .i64 fl]), (some 34, .slice (some ad) n c), (some 35, .int .i64 (k : Int)), (some 36, .pointer (some (ad.add (k * 7)))), (some 37, .agg #[.int .i64 (o k).kind, .slice (o k).la (o k).ln (o k).lc, .slice (o k).ma (o k).mn (o k).mc, .int .i64 (o k).t, .int .i64 (o k).hi, .int .u64 (o k).v, .int .i64 (o k).gen]), (some 38, .tuple #[.agg #[.slice A9 n9 c9, .int .i64 r.1.floor], .agg #[.int .i64 r.2.1.err, .int .i64 r.2.1.n, .slice B9 m9 d9], .slice C9 k9 f9]), (some 32, .tuple #[.agg #[.slice A9 n9 c9, .int .i64 r.1.floor], .agg #[.int .i64 r.2.1.err, .int .i64 r.2.1.n, .slice B9 m9 d9], .slice C9 k9 f9]), (some 39, .agg #[.slice A9 n9 c9, .int .i64 r.1.floor]), (some 40, .agg #[.int .i64 r.2.1.err, .int .i64 r.2.1.n, .slice B9 m9 d9]), (some 41, .slice C9 k9 f9), (some 9, .pointer (some ⟨p, 0, none⟩)), (some 10, .pointer (some ⟨p2, 0, none⟩)), (some 11, .slice C9 k9 f9)]) (by kernel_rfl) ?_ ?_
      · have HD : Hid (Below wr.heap.size wr wr.drew) := Lib.hid (Below.refl _ _).drew
        generalize wr.drew = wd at HD ⊢
        have HOC : Hid (∀ U, Below wr.heap.size wr U → U.cell? (ad.add (k * 7)) = some (.int .i64 (o k).kind) ∧ U.cell? ⟨(ad.add (k * 7)).block, (ad.add (k * 7)).off + 1, none⟩ = some (.slice (o k).la (o k).ln (o k).lc) ∧ U.cell? ⟨(ad.add (k * 7)).block, (ad.add (k * 7)).off + 2, none⟩ = some (.slice (o k).ma (o k).mn (o k).mc) ∧ U.cell? ⟨(ad.add (k * 7)).block, (ad.add (k * 7)).off + 3, none⟩ = some (.int .i64 (o k).t) ∧ U.cell? ⟨(ad.add (k * 7)).block, (ad.add (k * 7)).off + 4, none⟩ = some (.int .i64 (o k).hi) ∧ U.cell? ⟨(ad.add (k * 7)).block, (ad.add (k * 7)).off + 5, none⟩ = some (.int .u64 (o k).v) ∧ U.cell? ⟨(ad.add (k * 7)).block, (ad.add (k * 7)).off + 6, none⟩ = some (.int .i64 (o k).gen)) := Lib.hid (fun U hU =>
          ⟨cell_keep (cc0 (by decide)) hU, cell_keep (cc 1 (by omega) (by omega)) hU, cell_keep (cc 2 (by omega) (by omega)) hU, cell_keep (cc 3 (by omega) (by omega)) hU, cell_keep (cc 4 (by omega) (by omega)) hU, cell_keep (cc 5 (by omega) (by omega)) hU, cell_keep (cc 6 (by omega) (by omega)) hU⟩)
        clear cc0 cc
        refine wpAnyT_pick (S := (fun U => Below wr.heap.size wr U)) (by kernel_rfl) Only.panic Only.keepsIn (w := wd) HD.out [0, 1, 2, 3, 4] 10 _ _ (by kernel_rfl) ?_
        refine PickT.value (d := some 33) (.agg #[.slice A' n' c', .int .i64 fl]) rfl rfl (by kernel_rfl) (fun U hU => (by have hy := heap_keep HS.out.sk hU; have h0 : U.cell? ⟨sb, 0, none⟩ = some (.slice A' n' c') := cell_of_row _ _ _ _ _ _ hy; have h1 : U.cell? ⟨sb, 1, none⟩ = some (.int .i64 fl) := cell_of_row _ _ _ _ _ _ hy; go_simp)) ?_
        refine PickT.value (d := some 34) (.slice (some ad) n c) rfl rfl (by kernel_rfl) (fun U hU => (by go_simp)) ?_
        refine PickT.value (d := some 35) (.int .i64 (k : Int)) rfl rfl (by kernel_rfl) (fun U hU => (by go_simp)) ?_
        refine PickT.value (d := some 36) (.pointer (some (ad.add (k * 7)))) rfl rfl (by kernel_rfl) (fun U hU => (by go_simp)) ?_
        refine PickT.value (d := some 37) (.agg #[.int .i64 (o k).kind, .slice (o k).la (o k).ln (o k).lc, .slice (o k).ma (o k).mn (o k).mc, .int .i64 (o k).t, .int .i64 (o k).hi, .int .u64 (o k).v, .int .i64 (o k).gen]) rfl rfl (by kernel_rfl) (fun U hU => (by obtain ⟨h0, h1, h2, h3, h4, h5, h6⟩ := HOC.out U hU; go_simp)) ?_
        simp only [PickT, Act.put, List.setIfInBounds_toArray, List.set_cons_zero, List.set_cons_succ]
        have HG := Lib.hid (RG.begin HD.out); have HKB := Lib.hid KB.none_
        clear HOC
        refine wpAnyT_three (i := 5) (j := 10) (l := 11) (by kernel_rfl) rfl rfl rfl (by kernel_rfl) (by kernel_rfl) (by kernel_rfl) ?_ ?_ ?_
        · intro K hK; unfold Oper.wp
          go_simp
          refine (HDO.out _ HG.out.bel).mono ?_; rintro e w9 ⟨A9, n9, c9, q9, B9, m9, d9, aq9, C9, k9, f9, rr9, rfl, -, hse9, -, -, hrs9, hre9, hb9, hrw9, hor9⟩
          have hlo : W.heap.size ≤ wd.heap.size := Nat.le_trans HS.out.bel.size HG.out.bel.size
          have hz := HG.out.call (D2 := DW W.heap.size A9 n9 c9 q9 C9 k9 f9 rr9) hb9 ⟨hrw9.from_ hlo, hor9.from_ hlo⟩
          have HP9 := Lib.hid (And.intro hse9 (And.intro hre9 hrs9.few))
          have HG := Lib.hid hz
          have HKB := Lib.hid (DW.kb W.heap.size A9 n9 c9 q9 C9 k9 f9 rr9)
          clear hz hlo hse9 hrs9 hre9 hb9 hrw9 hor9
          refine hK _ _ (fun _ => HG.out.bel) ?_
          clear hK K
          refine wpAnyT_pick (S := (fun U => Below wr.heap.size wr U)) (by kernel_rfl) Only.panic Only.keepsIn (w := w9) HG.out.bel [6, 7, 8, 9] 5 _ _ (by kernel_rfl) ?_
          refine PickT.value (d := some 32) (.tuple #[.agg #[.slice A9 n9 c9, .int .i64 r.1.floor], .agg #[.int .i64 r.2.1.err, .int .i64 r.2.1.n, .slice B9 m9 d9], .slice C9 k9 f9]) rfl rfl (by kernel_rfl) (fun U hU => (by go_simp)) ?_
          refine PickT.value (d := some 39) (.agg #[.slice A9 n9 c9, .int .i64 r.1.floor]) rfl rfl (by kernel_rfl) (fun U hU => (by go_simp)) ?_
          refine PickT.value (d := some 40) (.agg #[.int .i64 r.2.1.err, .int .i64 r.2.1.n, .slice B9 m9 d9]) rfl rfl (by kernel_rfl) (fun U hU => (by go_simp)) ?_
          refine PickT.value (d := some 41) (.slice C9 k9 f9) rfl rfl (by kernel_rfl) (fun U hU => (by go_simp)) ?_
          simp only [PickT, Act.put, List.setIfInBounds_toArray, List.set_cons_zero, List.set_cons_succ]
          refine wpAnyT_two (i := 10) (j := 11) (by kernel_rfl) rfl rfl (by kernel_rfl) (by kernel_rfl) ?_ ?_
          · intro K hK; unfold Oper.wp
            go_simp
            have hz := HG.out.alloc1 HKB.out
            obtain ⟨p, hp⟩ : ∃ p, p = w9.heap.size := ⟨_, rfl⟩
            obtain ⟨v14, hv⟩ : ∃ v14, v14 = w9.alloc (.cells #[.slice none 0 0, .int .i64 0] 28) := ⟨_, rfl⟩
            rw [← hp, ← hv] at hz ⊢
            have HG := Lib.hid hz
            clear hz hp hv
            refine hK _ _ (fun _ => HG.out.bel) ?_
            clear hK K
            refine wpAnyT_one (i := 11) (by kernel_rfl) rfl (by kernel_rfl) ?_
            intro K hK; unfold Oper.wp
            go_simp
            have hz := HG.out.alloc2 HKB.out
            obtain ⟨p2, hp⟩ : ∃ p2, p2 = v14.heap.size := ⟨_, rfl⟩
            obtain ⟨v15, hv⟩ : ∃ v15, v15 = v14.alloc (.cells #[.int .i64 0, .int .i64 0, .slice none 0 0] 31) := ⟨_, rfl⟩
            rw [← hp, ← hv] at hz ⊢
            have HG := Lib.hid hz
            clear hz hp hv
            refine hK _ _ (fun _ => HG.out.bel) ?_
            clear hK K
            have a0 : v15.cell? ⟨p, 0, none⟩ = some (.slice none 0 0) := cell_of_row _ _ _ _ _ _ (HG.out.z1 _ _ rfl).2
            have a1 : v15.cell? ⟨p, 1, none⟩ = some (.int .i64 0) := cell_of_row _ _ _ _ _ _ (HG.out.z1 _ _ rfl).2
            have b0 : v15.frozen? ⟨p, 0, none⟩ = false := frozen_of_row _ _ _ _ _ (HG.out.z1 _ _ rfl).2
            have b1 : v15.frozen? ⟨p, 1, none⟩ = false := frozen_of_row _ _ _ _ _ (HG.out.z1 _ _ rfl).2
            refine wpAnyT_one (i := 12) (by kernel_rfl) rfl (by kernel_rfl) ?_
            intro K hK
            unfold Oper.wp
            go_simp
            clear a0 a1 b0 b1
            have hz := HG.out.store1 HKB.out (.slice A9 n9 c9) (.int .i64 r.1.floor)
            obtain ⟨v16, hv⟩ : ∃ v16, v16 = (v15.setCell ⟨p, 0, none⟩ (.slice A9 n9 c9)).setCell ⟨p, 1, none⟩ (.int .i64 r.1.floor) := ⟨_, rfl⟩
            rw [← hv] at hz ⊢
            have HG := Lib.hid hz
            clear hz hv
            refine hK _ _ (fun _ => HG.out.bel) ?_
            clear hK K
            have a0 : v16.cell? ⟨p2, 0, none⟩ = some (.int .i64 0) := cell_of_row _ _ _ _ _ _ (HG.out.z2 _ _ rfl).2
            have a1 : v16.cell? ⟨p2, 1, none⟩ = some (.int .i64 0) := cell_of_row _ _ _ _ _ _ (HG.out.z2 _ _ rfl).2
            have a2 : v16.cell? ⟨p2, 2, none⟩ = some (.slice none 0 0) := cell_of_row _ _ _ _ _ _ (HG.out.z2 _ _ rfl).2
            have b0 : v16.frozen? ⟨p2, 0, none⟩ = false := frozen_of_row _ _ _ _ _ (HG.out.z2 _ _ rfl).2
            have b1 : v16.frozen? ⟨p2, 1, none⟩ = false := frozen_of_row _ _ _ _ _ (HG.out.z2 _ _ rfl).2
            have b2 : v16.frozen? ⟨p2, 2, none⟩ = false := frozen_of_row _ _ _ _ _ (HG.out.z2 _ _ rfl).2
            refine wpAnyT_one (i := 13) (by kernel_rfl) rfl (by kernel_rfl) ?_
            intro K hK
            unfold Oper.wp
            go_simp
            clear a0 a1 a2 b0 b1 b2
            have hz := HG.out.store2 HKB.out (.int .i64 r.2.1.err) (.int .i64 r.2.1.n) (.slice B9 m9 d9)
            obtain ⟨v17, hv⟩ : ∃ v17, v17 = ((v16.setCell ⟨p2, 0, none⟩ (.int .i64 r.2.1.err)).setCell ⟨p2, 1, none⟩ (.int .i64 r.2.1.n)).setCell ⟨p2, 2, none⟩ (.slice B9 m9 d9) := ⟨_, rfl⟩
            rw [← hv] at hz ⊢
            have HG := Lib.hid hz
            clear hz hv
            refine hK _ _ (fun _ => HG.out.bel) ?_
            clear hK K
            refine wpAnyT_pick (S := (fun U => Below wr.heap.size wr U)) (by kernel_rfl) Only.panic Only.keepsIn (w := v17) HG.out.bel [14] 0 _ _ (by kernel_rfl) ?_
            refine PickT.value (d := some 11) (.slice C9 k9 f9) rfl rfl (by kernel_rfl) (fun U hU => (by go_simp)) ?_
            simp only [PickT, Act.put, List.setIfInBounds_toArray, List.set_cons_zero, List.set_cons_succ]
            refine wpAnyT_done (by kernel_rfl) ?_ _
            refine only_mk ?_
            exact ⟨p, p2, A9, n9, c9, q9, B9, m9, d9, C9, k9, f9, rr9, HP9.out, HG.out, by kernel_rfl⟩
          · intro K hK; unfold Oper.wp
            go_simp
            have hz := HG.out.alloc2 HKB.out
            obtain ⟨p2, hp⟩ : ∃ p2, p2 = w9.heap.size := ⟨_, rfl⟩
            obtain ⟨v15, hv⟩ : ∃ v15, v15 = w9.alloc (.cells #[.int .i64 0, .int .i64 0, .slice none 0 0] 31) := ⟨_, rfl⟩
            rw [← hp, ← hv] at hz ⊢
            have HG := Lib.hid hz
            clear hz hp hv
            refine hK _ _ (fun _ => HG.out.bel) ?_
            clear hK K
            refine wpAnyT_one (i := 10) (by kernel_rfl) rfl (by kernel_rfl) ?_
            intro K hK; unfold Oper.wp
            go_simp
            have hz := HG.out.alloc1 HKB.out
            obtain ⟨p, hp⟩ : ∃ p, p = v15.heap.size := ⟨_, rfl⟩
            obtain ⟨v14, hv⟩ : ∃ v14, v14 = v15.alloc (.cells #[.slice none 0 0, .int .i64 0] 28) := ⟨_, rfl⟩
            rw [← hp, ← hv] at hz ⊢
            have HG := Lib.hid hz
            clear hz hp hv
            refine hK _ _ (fun _ => HG.out.bel) ?_
            clear hK K
            have a0 : v14.cell? ⟨p, 0, none⟩ = some (.slice none 0 0) := cell_of_row _ _ _ _ _ _ (HG.out.z1 _ _ rfl).2
            have a1 : v14.cell? ⟨p, 1, none⟩ = some (.int .i64 0) := cell_of_row _ _ _ _ _ _ (HG.out.z1 _ _ rfl).2
            have b0 : v14.frozen? ⟨p, 0, none⟩ = false := frozen_of_row _ _ _ _ _ (HG.out.z1 _ _ rfl).2
            have b1 : v14.frozen? ⟨p, 1, none⟩ = false := frozen_of_row _ _ _ _ _ (HG.out.z1 _ _ rfl).2
            refine wpAnyT_one (i := 12) (by kernel_rfl) rfl (by kernel_rfl) ?_
            intro K hK
            unfold Oper.wp
            go_simp
            clear a0 a1 b0 b1
            have hz := HG.out.store1 HKB.out (.slice A9 n9 c9) (.int .i64 r.1.floor)
            obtain ⟨v16, hv⟩ : ∃ v16, v16 = (v14.setCell ⟨p, 0, none⟩ (.slice A9 n9 c9)).setCell ⟨p, 1, none⟩ (.int .i64 r.1.floor) := ⟨_, rfl⟩
            rw [← hv] at hz ⊢
            have HG := Lib.hid hz
            clear hz hv
            refine hK _ _ (fun _ => HG.out.bel) ?_
            clear hK K
            have a0 : v16.cell? ⟨p2, 0, none⟩ = some (.int .i64 0) := cell_of_row _ _ _ _ _ _ (HG.out.z2 _ _ rfl).2
            have a1 : v16.cell? ⟨p2, 1, none⟩ = some (.int .i64 0) := cell_of_row _ _ _ _ _ _ (HG.out.z2 _ _ rfl).2
            have a2 : v16.cell? ⟨p2, 2, none⟩ = some (.slice none 0 0) := cell_of_row _ _ _ _ _ _ (HG.out.z2 _ _ rfl).2
            have b0 : v16.frozen? ⟨p2, 0, none⟩ = false := frozen_of_row _ _ _ _ _ (HG.out.z2 _ _ rfl).2
            have b1 : v16.frozen? ⟨p2, 1, none⟩ = false := frozen_of_row _ _ _ _ _ (HG.out.z2 _ _ rfl).2
            have b2 : v16.frozen? ⟨p2, 2, none⟩ = false := frozen_of_row _ _ _ _ _ (HG.out.z2 _ _ rfl).2
            refine wpAnyT_one (i := 13) (by kernel_rfl) rfl (by kernel_rfl) ?_
            intro K hK
            unfold Oper.wp
            go_simp
            clear a0 a1 a2 b0 b1 b2
            have hz := HG.out.store2 HKB.out (.int .i64 r.2.1.err) (.int .i64 r.2.1.n) (.slice B9 m9 d9)
            obtain ⟨v17, hv⟩ : ∃ v17, v17 = ((v16.setCell ⟨p2, 0, none⟩ (.int .i64 r.2.1.err)).setCell ⟨p2, 1, none⟩ (.int .i64 r.2.1.n)).setCell ⟨p2, 2, none⟩ (.slice B9 m9 d9) := ⟨_, rfl⟩
            rw [← hv] at hz ⊢
            have HG := Lib.hid hz
            clear hz hv
            refine hK _ _ (fun _ => HG.out.bel) ?_
            clear hK K
            refine wpAnyT_pick (S := (fun U => Below wr.heap.size wr U)) (by kernel_rfl) Only.panic Only.keepsIn (w := v17) HG.out.bel [14] 0 _ _ (by kernel_rfl) ?_
            refine PickT.value (d := some 11) (.slice C9 k9 f9) rfl rfl (by kernel_rfl) (fun U hU => (by go_simp)) ?_
            simp only [PickT, Act.put, List.setIfInBounds_toArray, List.set_cons_zero, List.set_cons_succ]
            refine wpAnyT_done (by kernel_rfl) ?_ _
            refine only_mk ?_
            exact ⟨p, p2, A9, n9, c9, q9, B9, m9, d9, C9, k9, f9, rr9, HP9.out, HG.out, by kernel_rfl⟩
        · intro K hK; unfold Oper.wp
          go_simp
          have hz := HG.out.alloc1 HKB.out
          obtain ⟨p, hp⟩ : ∃ p, p = wd.heap.size := ⟨_, rfl⟩
          obtain ⟨v14, hv⟩ : ∃ v14, v14 = wd.alloc (.cells #[.slice none 0 0, .int .i64 0] 28) := ⟨_, rfl⟩
          rw [← hp, ← hv] at hz ⊢
          have HG := Lib.hid hz
          clear hz hp hv
          refine hK _ _ (fun _ => HG.out.bel) ?_
          clear hK K
          refine wpAnyT_two (i := 5) (j := 11) (by kernel_rfl) rfl rfl (by kernel_rfl) (by kernel_rfl) ?_ ?_
          · intro K hK; unfold Oper.wp
            go_simp
            refine (HDO.out _ HG.out.bel).mono ?_; rintro e w9 ⟨A9, n9, c9, q9, B9, m9, d9, aq9, C9, k9, f9, rr9, rfl, -, hse9, -, -, hrs9, hre9, hb9, hrw9, hor9⟩
            have hlo : W.heap.size ≤ v14.heap.size := Nat.le_trans HS.out.bel.size HG.out.bel.size
            have hz := HG.out.call (D2 := DW W.heap.size A9 n9 c9 q9 C9 k9 f9 rr9) hb9 ⟨hrw9.from_ hlo, hor9.from_ hlo⟩
            have HP9 := Lib.hid (And.intro hse9 (And.intro hre9 hrs9.few))
            have HG := Lib.hid hz
            have HKB := Lib.hid (DW.kb W.heap.size A9 n9 c9 q9 C9 k9 f9 rr9)
            clear hz hlo hse9 hrs9 hre9 hb9 hrw9 hor9
            refine hK _ _ (fun _ => HG.out.bel) ?_
            clear hK K
            refine wpAnyT_pick (S := (fun U => Below wr.heap.size wr U)) (by kernel_rfl) Only.panic Only.keepsIn (w := w9) HG.out.bel [6, 7, 8, 9] 4 _ _ (by kernel_rfl) ?_
            refine PickT.value (d := some 32) (.tuple #[.agg #[.slice A9 n9 c9, .int .i64 r.1.floor], .agg #[.int .i64 r.2.1.err, .int .i64 r.2.1.n, .slice B9 m9 d9], .slice C9 k9 f9]) rfl rfl (by kernel_rfl) (fun U hU => (by go_simp)) ?_
            refine PickT.value (d := some 39) (.agg #[.slice A9 n9 c9, .int .i64 r.1.floor]) rfl rfl (by kernel_rfl) (fun U hU => (by go_simp)) ?_
            refine PickT.value (d := some 40) (.agg #[.int .i64 r.2.1.err, .int .i64 r.2.1.n, .slice B9 m9 d9]) rfl rfl (by kernel_rfl) (fun U hU => (by go_simp)) ?_
            refine PickT.value (d := some 41) (.slice C9 k9 f9) rfl rfl (by kernel_rfl) (fun U hU => (by go_simp)) ?_
            simp only [PickT, Act.put, List.setIfInBounds_toArray, List.set_cons_zero, List.set_cons_succ]
            refine wpAnyT_one (i := 11) (by kernel_rfl) rfl (by kernel_rfl) ?_
            intro K hK; unfold Oper.wp
            go_simp
            have hz := HG.out.alloc2 HKB.out
            obtain ⟨p2, hp⟩ : ∃ p2, p2 = w9.heap.size := ⟨_, rfl⟩
            obtain ⟨v15, hv⟩ : ∃ v15, v15 = w9.alloc (.cells #[.int .i64 0, .int .i64 0, .slice none 0 0] 31) := ⟨_, rfl⟩
            rw [← hp, ← hv] at hz ⊢
            have HG := Lib.hid hz
            clear hz hp hv
            refine hK _ _ (fun _ => HG.out.bel) ?_
            clear hK K
            have a0 : v15.cell? ⟨p, 0, none⟩ = some (.slice none 0 0) := cell_of_row _ _ _ _ _ _ (HG.out.z1 _ _ rfl).2
            have a1 : v15.cell? ⟨p, 1, none⟩ = some (.int .i64 0) := cell_of_row _ _ _ _ _ _ (HG.out.z1 _ _ rfl).2
            have b0 : v15.frozen? ⟨p, 0, none⟩ = false := frozen_of_row _ _ _ _ _ (HG.out.z1 _ _ rfl).2
            have b1 : v15.frozen? ⟨p, 1, none⟩ = false := frozen_of_row _ _ _ _ _ (HG.out.z1 _ _ rfl).2
            refine wpAnyT_one (i := 12) (by kernel_rfl) rfl (by kernel_rfl) ?_
            intro K hK
            unfold Oper.wp
            go_simp
            clear a0 a1 b0 b1
            have hz := HG.out.store1 HKB.out (.slice A9 n9 c9) (.int .i64 r.1.floor)
            obtain ⟨v16, hv⟩ : ∃ v16, v16 = (v15.setCell ⟨p, 0, none⟩ (.slice A9 n9 c9)).setCell ⟨p, 1, none⟩ (.int .i64 r.1.floor) := ⟨_, rfl⟩
            rw [← hv] at hz ⊢
            have HG := Lib.hid hz
            clear hz hv
            refine hK _ _ (fun _ => HG.out.bel) ?_
            clear hK K
            have a0 : v16.cell? ⟨p2, 0, none⟩ = some (.int .i64 0) := cell_of_row _ _ _ _ _ _ (HG.out.z2 _ _ rfl).2
            have a1 : v16.cell? ⟨p2, 1, none⟩ = some (.int .i64 0) := cell_of_row _ _ _ _ _ _ (HG.out.z2 _ _ rfl).2
            have a2 : v16.cell? ⟨p2, 2, none⟩ = some (.slice none 0 0) := cell_of_row _ _ _ _ _ _ (HG.out.z2 _ _ rfl).2
            have b0 : v16.frozen? ⟨p2, 0, none⟩ = false := frozen_of_row _ _ _ _ _ (HG.out.z2 _ _ rfl).2
            have b1 : v16.frozen? ⟨p2, 1, none⟩ = false := frozen_of_row _ _ _ _ _ (HG.out.z2 _ _ rfl).2
            have b2 : v16.frozen? ⟨p2, 2, none⟩ = false := frozen_of_row _ _ _ _ _ (HG.out.z2 _ _ rfl).2
            refine wpAnyT_one (i := 13) (by kernel_rfl) rfl (by kernel_rfl) ?_
            intro K hK
            unfold Oper.wp
            go_simp
            clear a0 a1 a2 b0 b1 b2
            have hz := HG.out.store2 HKB.out (.int .i64 r.2.1.err) (.int .i64 r.2.1.n) (.slice B9 m9 d9)
            obtain ⟨v17, hv⟩ : ∃ v17, v17 = ((v16.setCell ⟨p2, 0, none⟩ (.int .i64 r.2.1.err)).setCell ⟨p2, 1, none⟩ (.int .i64 r.2.1.n)).setCell ⟨p2, 2, none⟩ (.slice B9 m9 d9) := ⟨_, rfl⟩
            rw [← hv] at hz ⊢
            have HG := Lib.hid hz
            clear hz hv
            refine hK _ _ (fun _ => HG.out.bel) ?_
            clear hK K
            refine wpAnyT_pick (S := (fun U => Below wr.heap.size wr U)) (by kernel_rfl) Only.panic Only.keepsIn (w := v17) HG.out.bel [14] 0 _ _ (by kernel_rfl) ?_
            refine PickT.value (d := some 11) (.slice C9 k9 f9) rfl rfl (by kernel_rfl) (fun U hU => (by go_simp)) ?_
            simp only [PickT, Act.put, List.setIfInBounds_toArray, List.set_cons_zero, List.set_cons_succ]
            refine wpAnyT_done (by kernel_rfl) ?_ _
            refine only_mk ?_
            exact ⟨p, p2, A9, n9, c9, q9, B9, m9, d9, C9, k9, f9, rr9, HP9.out, HG.out, by kernel_rfl⟩
          · intro K hK; unfold Oper.wp
            go_simp
            have hz := HG.out.alloc2 HKB.out
            obtain ⟨p2, hp⟩ : ∃ p2, p2 = v14.heap.size := ⟨_, rfl⟩
            obtain ⟨v15, hv⟩ : ∃ v15, v15 = v14.alloc (.cells #[.int .i64 0, .int .i64 0, .slice none 0 0] 31) := ⟨_, rfl⟩
            rw [← hp, ← hv] at hz ⊢
            have HG := Lib.hid hz
            clear hz hp hv
            refine hK _ _ (fun _ => HG.out.bel) ?_
            clear hK K
            refine wpAnyT_one (i := 5) (by kernel_rfl) rfl (by kernel_rfl) ?_
            intro K hK; unfold Oper.wp
            go_simp
            refine (HDO.out _ HG.out.bel).mono ?_; rintro e w9 ⟨A9, n9, c9, q9, B9, m9, d9, aq9, C9, k9, f9, rr9, rfl, -, hse9, -, -, hrs9, hre9, hb9, hrw9, hor9⟩
            have hlo : W.heap.size ≤ v15.heap.size := Nat.le_trans HS.out.bel.size HG.out.bel.size
            have hz := HG.out.call (D2 := DW W.heap.size A9 n9 c9 q9 C9 k9 f9 rr9) hb9 ⟨hrw9.from_ hlo, hor9.from_ hlo⟩
            have HP9 := Lib.hid (And.intro hse9 (And.intro hre9 hrs9.few))
            have HG := Lib.hid hz
            have HKB := Lib.hid (DW.kb W.heap.size A9 n9 c9 q9 C9 k9 f9 rr9)
            clear hz hlo hse9 hrs9 hre9 hb9 hrw9 hor9
            refine hK _ _ (fun _ => HG.out.bel) ?_
            clear hK K
            refine wpAnyT_pick (S := (fun U => Below wr.heap.size wr U)) (by kernel_rfl) Only.panic Only.keepsIn (w := w9) HG.out.bel [6, 7, 8, 9] 3 _ _ (by kernel_rfl) ?_
            refine PickT.value (d := some 32) (.tuple #[.agg #[.slice A9 n9 c9, .int .i64 r.1.floor], .agg #[.int .i64 r.2.1.err, .int .i64 r.2.1.n, .slice B9 m9 d9], .slice C9 k9 f9]) rfl rfl (by kernel_rfl) (fun U hU => (by go_simp)) ?_
            refine PickT.value (d := some 39) (.agg #[.slice A9 n9 c9, .int .i64 r.1.floor]) rfl rfl (by kernel_rfl) (fun U hU => (by go_simp)) ?_
            refine PickT.value (d := some 40) (.agg #[.int .i64 r.2.1.err, .int .i64 r.2.1.n, .slice B9 m9 d9]) rfl rfl (by kernel_rfl) (fun U hU => (by go_simp)) ?_
            refine PickT.value (d := some 41) (.slice C9 k9 f9) rfl rfl (by kernel_rfl) (fun U hU => (by go_simp)) ?_
            simp only [PickT, Act.put, List.setIfInBounds_toArray, List.set_cons_zero, List.set_cons_succ]
            have a0 : w9.cell? ⟨p, 0, none⟩ = some (.slice none 0 0) := cell_of_row _ _ _ _ _ _ (HG.out.z1 _ _ rfl).2
            have a1 : w9.cell? ⟨p, 1, none⟩ = some (.int .i64 0) := cell_of_row _ _ _ _ _ _ (HG.out.z1 _ _ rfl).2
            have b0 : w9.frozen? ⟨p, 0, none⟩ = false := frozen_of_row _ _ _ _ _ (HG.out.z1 _ _ rfl).2
            have b1 : w9.frozen? ⟨p, 1, none⟩ = false := frozen_of_row _ _ _ _ _ (HG.out.z1 _ _ rfl).2
            refine wpAnyT_one (i := 12) (by kernel_rfl) rfl (by kernel_rfl) ?_
            intro K hK
            unfold Oper.wp
            go_simp
            clear a0 a1 b0 b1
            have hz := HG.out.store1 HKB.out (.slice A9 n9 c9) (.int .i64 r.1.floor)
            obtain ⟨v16, hv⟩ : ∃ v16, v16 = (w9.setCell ⟨p, 0, none⟩ (.slice A9 n9 c9)).setCell ⟨p, 1, none⟩ (.int .i64 r.1.floor) := ⟨_, rfl⟩
            rw [← hv] at hz ⊢
            have HG := Lib.hid hz
            clear hz hv
            refine hK _ _ (fun _ => HG.out.bel) ?_
            clear hK K
            have a0 : v16.cell? ⟨p2, 0, none⟩ = some (.int .i64 0) := cell_of_row _ _ _ _ _ _ (HG.out.z2 _ _ rfl).2
            have a1 : v16.cell? ⟨p2, 1, none⟩ = some (.int .i64 0) := cell_of_row _ _ _ _ _ _ (HG.out.z2 _ _ rfl).2
            have a2 : v16.cell? ⟨p2, 2, none⟩ = some (.slice none 0 0) := cell_of_row _ _ _ _ _ _ (HG.out.z2 _ _ rfl).2
            have b0 : v16.frozen? ⟨p2, 0, none⟩ = false := frozen_of_row _ _ _ _ _ (HG.out.z2 _ _ rfl).2
            have b1 : v16.frozen? ⟨p2, 1, none⟩ = false := frozen_of_row _ _ _ _ _ (HG.out.z2 _ _ rfl).2
            have b2 : v16.frozen? ⟨p2, 2, none⟩ = false := frozen_of_row _ _ _ _ _ (HG.out.z2 _ _ rfl).2
            refine wpAnyT_one (i := 13) (by kernel_rfl) rfl (by kernel_rfl) ?_
            intro K hK
            unfold Oper.wp
            go_simp
            clear a0 a1 a2 b0 b1 b2
            have hz := HG.out.store2 HKB.out (.int .i64 r.2.1.err) (.int .i64 r.2.1.n) (.slice B9 m9 d9)
            obtain ⟨v17, hv⟩ : ∃ v17, v17 = ((v16.setCell ⟨p2, 0, none⟩ (.int .i64 r.2.1.err)).setCell ⟨p2, 1, none⟩ (.int .i64 r.2.1.n)).setCell ⟨p2, 2, none⟩ (.slice B9 m9 d9) := ⟨_, rfl⟩
            rw [← hv] at hz ⊢
            have HG := Lib.hid hz
            clear hz hv
            refine hK _ _ (fun _ => HG.out.bel) ?_
            clear hK K
            refine wpAnyT_pick (S := (fun U => Below wr.heap.size wr U)) (by kernel_rfl) Only.panic Only.keepsIn (w := v17) HG.out.bel [14] 0 _ _ (by kernel_rfl) ?_
            refine PickT.value (d := some 11) (.slice C9 k9 f9) rfl rfl (by kernel_rfl) (fun U hU => (by go_simp)) ?_
            simp only [PickT, Act.put, List.setIfInBounds_toArray, List.set_cons_zero, List.set_cons_succ]
            refine wpAnyT_done (by kernel_rfl) ?_ _
            refine only_mk ?_
            exact ⟨p, p2, A9, n9, c9, q9, B9, m9, d9, C9, k9, f9, rr9, HP9.out, HG.out, by kernel_rfl⟩
        · intro K hK; unfold Oper.wp
          go_simp
          have hz := HG.out.alloc2 HKB.out
          obtain ⟨p2, hp⟩ : ∃ p2, p2 = wd.heap.size := ⟨_, rfl⟩
          obtain ⟨v15, hv⟩ : ∃ v15, v15 = wd.alloc (.cells #[.int .i64 0, .int .i64 0, .slice none 0 0] 31) := ⟨_, rfl⟩
          rw [← hp, ← hv] at hz ⊢
          have HG := Lib.hid hz
          clear hz hp hv
          refine hK _ _ (fun _ => HG.out.bel) ?_
          clear hK K
          refine wpAnyT_two (i := 5) (j := 10) (by kernel_rfl) rfl rfl (by kernel_rfl) (by kernel_rfl) ?_ ?_
          · intro K hK; unfold Oper.wp
            go_simp
            refine (HDO.out _ HG.out.bel).mono ?_; rintro e w9 ⟨A9, n9, c9, q9, B9, m9, d9, aq9, C9, k9, f9, rr9, rfl, -, hse9, -, -, hrs9, hre9, hb9, hrw9, hor9⟩
            have hlo : W.heap.size ≤ v15.heap.size := Nat.le_trans HS.out.bel.size HG.out.bel.size
            have hz := HG.out.call (D2 := DW W.heap.size A9 n9 c9 q9 C9 k9 f9 rr9) hb9 ⟨hrw9.from_ hlo, hor9.from_ hlo⟩
            have HP9 := Lib.hid (And.intro hse9 (And.intro hre9 hrs9.few))
            have HG := Lib.hid hz
            have HKB := Lib.hid (DW.kb W.heap.size A9 n9 c9 q9 C9 k9 f9 rr9)
            clear hz hlo hse9 hrs9 hre9 hb9 hrw9 hor9
            refine hK _ _ (fun _ => HG.out.bel) ?_
            clear hK K
            refine wpAnyT_pick (S := (fun U => Below wr.heap.size wr U)) (by kernel_rfl) Only.panic Only.keepsIn (w := w9) HG.out.bel [6, 7, 8, 9] 4 _ _ (by kernel_rfl) ?_
            refine PickT.value (d := some 32) (.tuple #[.agg #[.slice A9 n9 c9, .int .i64 r.1.floor], .agg #[.int .i64 r.2.1.err, .int .i64 r.2.1.n, .slice B9 m9 d9], .slice C9 k9 f9]) rfl rfl (by kernel_rfl) (fun U hU => (by go_simp)) ?_
            refine PickT.value (d := some 39) (.agg #[.slice A9 n9 c9, .int .i64 r.1.floor]) rfl rfl (by kernel_rfl) (fun U hU => (by go_simp)) ?_
            refine PickT.value (d := some 40) (.agg #[.int .i64 r.2.1.err, .int .i64 r.2.1.n, .slice B9 m9 d9]) rfl rfl (by kernel_rfl) (fun U hU => (by go_simp)) ?_
            refine PickT.value (d := some 41) (.slice C9 k9 f9) rfl rfl (by kernel_rfl) (fun U hU => (by go_simp)) ?_
            simp only [PickT, Act.put, List.setIfInBounds_toArray, List.set_cons_zero, List.set_cons_succ]
            refine wpAnyT_one (i := 10) (by kernel_rfl) rfl (by kernel_rfl) ?_
            intro K hK; unfold Oper.wp
            go_simp
            have hz := HG.out.alloc1 HKB.out
            obtain ⟨p, hp⟩ : ∃ p, p = w9.heap.size := ⟨_, rfl⟩
            obtain ⟨v14, hv⟩ : ∃ v14, v14 = w9.alloc (.cells #[.slice none 0 0, .int .i64 0] 28) := ⟨_, rfl⟩
            rw [← hp, ← hv] at hz ⊢
            have HG := Lib.hid hz
            clear hz hp hv
            refine hK _ _ (fun _ => HG.out.bel) ?_
            clear hK K
            have a0 : v14.cell? ⟨p, 0, none⟩ = some (.slice none 0 0) := cell_of_row _ _ _ _ _ _ (HG.out.z1 _ _ rfl).2
            have a1 : v14.cell? ⟨p, 1, none⟩ = some (.int .i64 0) := cell_of_row _ _ _ _ _ _ (HG.out.z1 _ _ rfl).2
            have b0 : v14.frozen? ⟨p, 0, none⟩ = false := frozen_of_row _ _ _ _ _ (HG.out.z1 _ _ rfl).2
            have b1 : v14.frozen? ⟨p, 1, none⟩ = false := frozen_of_row _ _ _ _ _ (HG.out.z1 _ _ rfl).2
            refine wpAnyT_one (i := 12) (by kernel_rfl) rfl (by kernel_rfl) ?_
            intro K hK
            unfold Oper.wp
            go_simp
            clear a0 a1 b0 b1
            have hz := HG.out.store1 HKB.out (.slice A9 n9 c9) (.int .i64 r.1.floor)
            obtain ⟨v16, hv⟩ : ∃ v16, v16 = (v14.setCell ⟨p, 0, none⟩ (.slice A9 n9 c9)).setCell ⟨p, 1, none⟩ (.int .i64 r.1.floor) := ⟨_, rfl⟩
            rw [← hv] at hz ⊢
            have HG := Lib.hid hz
            clear hz hv
            refine hK _ _ (fun _ => HG.out.bel) ?_
            clear hK K
            have a0 : v16.cell? ⟨p2, 0, none⟩ = some (.int .i64 0) := cell_of_row _ _ _ _ _ _ (HG.out.z2 _ _ rfl).2
            have a1 : v16.cell? ⟨p2, 1, none⟩ = some (.int .i64 0) := cell_of_row _ _ _ _ _ _ (HG.out.z2 _ _ rfl).2
            have a2 : v16.cell? ⟨p2, 2, none⟩ = some (.slice none 0 0) := cell_of_row _ _ _ _ _ _ (HG.out.z2 _ _ rfl).2
            have b0 : v16.frozen? ⟨p2, 0, none⟩ = false := frozen_of_row _ _ _ _ _ (HG.out.z2 _ _ rfl).2
            have b1 : v16.frozen? ⟨p2, 1, none⟩ = false := frozen_of_row _ _ _ _ _ (HG.out.z2 _ _ rfl).2
            have b2 : v16.frozen? ⟨p2, 2, none⟩ = false := frozen_of_row _ _ _ _ _ (HG.out.z2 _ _ rfl).2
            refine wpAnyT_one (i := 13) (by kernel_rfl) rfl (by kernel_rfl) ?_
            intro K hK
            unfold Oper.wp
            go_simp
            clear a0 a1 a2 b0 b1 b2
            have hz := HG.out.store2 HKB.out (.int .i64 r.2.1.err) (.int .i64 r.2.1.n) (.slice B9 m9 d9)
            obtain ⟨v17, hv⟩ : ∃ v17, v17 = ((v16.setCell ⟨p2, 0, none⟩ (.int .i64 r.2.1.err)).setCell ⟨p2, 1, none⟩ (.int .i64 r.2.1.n)).setCell ⟨p2, 2, none⟩ (.slice B9 m9 d9) := ⟨_, rfl⟩
            rw [← hv] at hz ⊢
            have HG := Lib.hid hz
            clear hz hv
            refine hK _ _ (fun _ => HG.out.bel) ?_
            clear hK K
            refine wpAnyT_pick (S := (fun U => Below wr.heap.size wr U)) (by kernel_rfl) Only.panic Only.keepsIn (w := v17) HG.out.bel [14] 0 _ _ (by kernel_rfl) ?_
            refine PickT.value (d := some 11) (.slice C9 k9 f9) rfl rfl (by kernel_rfl) (fun U hU => (by go_simp)) ?_
            simp only [PickT, Act.put, List.setIfInBounds_toArray, List.set_cons_zero, List.set_cons_succ]
            refine wpAnyT_done (by kernel_rfl) ?_ _
            refine only_mk ?_
            exact ⟨p, p2, A9, n9, c9, q9, B9, m9, d9, C9, k9, f9, rr9, HP9.out, HG.out, by kernel_rfl⟩
          · intro K hK; unfold Oper.wp
            go_simp
            have hz := HG.out.alloc1 HKB.out
            obtain ⟨p, hp⟩ : ∃ p, p = v15.heap.size := ⟨_, rfl⟩
            obtain ⟨v14, hv⟩ : ∃ v14, v14 = v15.alloc (.cells #[.slice none 0 0, .int .i64 0] 28) := ⟨_, rfl⟩
            rw [← hp, ← hv] at hz ⊢
            have HG := Lib.hid hz
            clear hz hp hv
            refine hK _ _ (fun _ => HG.out.bel) ?_
            clear hK K
            refine wpAnyT_one (i := 5) (by kernel_rfl) rfl (by kernel_rfl) ?_
            intro K hK; unfold Oper.wp
            go_simp
            refine (HDO.out _ HG.out.bel).mono ?_; rintro e w9 ⟨A9, n9, c9, q9, B9, m9, d9, aq9, C9, k9, f9, rr9, rfl, -, hse9, -, -, hrs9, hre9, hb9, hrw9, hor9⟩
            have hlo : W.heap.size ≤ v14.heap.size := Nat.le_trans HS.out.bel.size HG.out.bel.size
            have hz := HG.out.call (D2 := DW W.heap.size A9 n9 c9 q9 C9 k9 f9 rr9) hb9 ⟨hrw9.from_ hlo, hor9.from_ hlo⟩
            have HP9 := Lib.hid (And.intro hse9 (And.intro hre9 hrs9.few))
            have HG := Lib.hid hz
            have HKB := Lib.hid (DW.kb W.heap.size A9 n9 c9 q9 C9 k9 f9 rr9)
            clear hz hlo hse9 hrs9 hre9 hb9 hrw9 hor9
            refine hK _ _ (fun _ => HG.out.bel) ?_
            clear hK K
            refine wpAnyT_pick (S := (fun U => Below wr.heap.size wr U)) (by kernel_rfl) Only.panic Only.keepsIn (w := w9) HG.out.bel [6, 7, 8, 9] 3 _ _ (by kernel_rfl) ?_
            refine PickT.value (d := some 32) (.tuple #[.agg #[.slice A9 n9 c9, .int .i64 r.1.floor], .agg #[.int .i64 r.2.1.err, .int .i64 r.2.1.n, .slice B9 m9 d9], .slice C9 k9 f9]) rfl rfl (by kernel_rfl) (fun U hU => (by go_simp)) ?_
            refine PickT.value (d := some 39) (.agg #[.slice A9 n9 c9, .int .i64 r.1.floor]) rfl rfl (by kernel_rfl) (fun U hU => (by go_simp)) ?_
            refine PickT.value (d := some 40) (.agg #[.int .i64 r.2.1.err, .int .i64 r.2.1.n, .slice B9 m9 d9]) rfl rfl (by kernel_rfl) (fun U hU => (by go_simp)) ?_
            refine PickT.value (d := some 41) (.slice C9 k9 f9) rfl rfl (by kernel_rfl) (fun U hU => (by go_simp)) ?_
            simp only [PickT, Act.put, List.setIfInBounds_toArray, List.set_cons_zero, List.set_cons_succ]
            have a0 : w9.cell? ⟨p, 0, none⟩ = some (.slice none 0 0) := cell_of_row _ _ _ _ _ _ (HG.out.z1 _ _ rfl).2
            have a1 : w9.cell? ⟨p, 1, none⟩ = some (.int .i64 0) := cell_of_row _ _ _ _ _ _ (HG.out.z1 _ _ rfl).2
            have b0 : w9.frozen? ⟨p, 0, none⟩ = false := frozen_of_row _ _ _ _ _ (HG.out.z1 _ _ rfl).2
            have b1 : w9.frozen? ⟨p, 1, none⟩ = false := frozen_of_row _ _ _ _ _ (HG.out.z1 _ _ rfl).2
            refine wpAnyT_one (i := 12) (by kernel_rfl) rfl (by kernel_rfl) ?_
            intro K hK
            unfold Oper.wp
            go_simp
            clear a0 a1 b0 b1
            have hz := HG.out.store1 HKB.out (.slice A9 n9 c9) (.int .i64 r.1.floor)
            obtain ⟨v16, hv⟩ : ∃ v16, v16 = (w9.setCell ⟨p, 0, none⟩ (.slice A9 n9 c9)).setCell ⟨p, 1, none⟩ (.int .i64 r.1.floor) := ⟨_, rfl⟩
            rw [← hv] at hz ⊢
            have HG := Lib.hid hz
            clear hz hv
            refine hK _ _ (fun _ => HG.out.bel) ?_
            clear hK K
            have a0 : v16.cell? ⟨p2, 0, none⟩ = some (.int .i64 0) := cell_of_row _ _ _ _ _ _ (HG.out.z2 _ _ rfl).2
            have a1 : v16.cell? ⟨p2, 1, none⟩ = some (.int .i64 0) := cell_of_row _ _ _ _ _ _ (HG.out.z2 _ _ rfl).2
            have a2 : v16.cell? ⟨p2, 2, none⟩ = some (.slice none 0 0) := cell_of_row _ _ _ _ _ _ (HG.out.z2 _ _ rfl).2
            have b0 : v16.frozen? ⟨p2, 0, none⟩ = false := frozen_of_row _ _ _ _ _ (HG.out.z2 _ _ rfl).2
            have b1 : v16.frozen? ⟨p2, 1, none⟩ = false := frozen_of_row _ _ _ _ _ (HG.out.z2 _ _ rfl).2
            have b2 : v16.frozen? ⟨p2, 2, none⟩ = false := frozen_of_row _ _ _ _ _ (HG.out.z2 _ _ rfl).2
            refine wpAnyT_one (i := 13) (by kernel_rfl) rfl (by kernel_rfl) ?_
            intro K hK
            unfold Oper.wp
            go_simp
            clear a0 a1 a2 b0 b1 b2
            have hz := HG.out.store2 HKB.out (.int .i64 r.2.1.err) (.int .i64 r.2.1.n) (.slice B9 m9 d9)
            obtain ⟨v17, hv⟩ : ∃ v17, v17 = ((v16.setCell ⟨p2, 0, none⟩ (.int .i64 r.2.1.err)).setCell ⟨p2, 1, none⟩ (.int .i64 r.2.1.n)).setCell ⟨p2, 2, none⟩ (.slice B9 m9 d9) := ⟨_, rfl⟩
            rw [← hv] at hz ⊢
            have HG := Lib.hid hz
            clear hz hv
            refine hK _ _ (fun _ => HG.out.bel) ?_
            clear hK K
            refine wpAnyT_pick (S := (fun U => Below wr.heap.size wr U)) (by kernel_rfl) Only.panic Only.keepsIn (w := v17) HG.out.bel [14] 0 _ _ (by kernel_rfl) ?_
            refine PickT.value (d := some 11) (.slice C9 k9 f9) rfl rfl (by kernel_rfl) (fun U hU => (by go_simp)) ?_
            simp only [PickT, Act.put, List.setIfInBounds_toArray, List.set_cons_zero, List.set_cons_succ]
            refine wpAnyT_done (by kernel_rfl) ?_ _
            refine only_mk ?_
            exact ⟨p, p2, A9, n9, c9, q9, B9, m9, d9, C9, k9, f9, rr9, HP9.out, HG.out, by kernel_rfl⟩
      rintro a2 W9 ⟨tb, ab, A9, n9, c9, q9, B9, m9, d9, C9, k9, f9, rr9, ⟨hse9, -, -⟩, hrg, rfl⟩
      simp only [puts, Act.put, List.setIfInBounds_toArray, List.set_cons_zero, List.set_cons_succ]
      refine then_mk ?_
      have hfu : ¬ r.1.floor < fl := by have := HFU.out; show ¬ _; omega
      have hx9 := (hrg.z1 _ _ rfl).2
      have hs9 := HS.out.far hrg.bel
      have HEND := Lib.hid (hs9.next (Below.refl _ _) hrg.d.1 (by rw [hse9]; exact HOK.out))
      have t0 : W9.cell? ⟨tb, 0, none⟩ = some (.slice A9 n9 c9) := cell_of_row _ _ _ _ _ _ hx9
      have t1 : W9.cell? ⟨tb, 1, none⟩ = some (.int .i64 r.1.floor) := cell_of_row _ _ _ _ _ _ hx9
      have s0 : W9.cell? ⟨sb, 0, none⟩ = some (.slice A' n' c') := cell_of_row _ _ _ _ _ _ hs9.sk
      have s1 : W9.cell? ⟨sb, 1, none⟩ = some (.int .i64 fl) := cell_of_row _ _ _ _ _ _ hs9.sk
      have g0 : W9.frozen? ⟨sb, 0, none⟩ = false := frozen_of_row _ _ _ _ _ hs9.sk
      have g1 : W9.frozen? ⟨sb, 1, none⟩ = false := frozen_of_row _ _ _ _ _ hs9.sk
      have d2 : decide (r.1.floor < fl) = false := decide_eq_false hfu
      clear hse9 hrg hx9 hs9 HDO HFU HOK cc0 cc
      go_wp2_with fail
      go_roundw
      case rel => exact ⟨k + 1, A9, n9, c9, q9, r.1.floor, by omega, by go_num, HEND.out⟩
      case measure => simp [intOf]; omega
    · have d1 : decide ((k : Int) < (n : Int)) = false := decide_eq_false (by omega)
      have HF0 := Lib.hid (ok_few HS.out.ok)
      clear HA HSM i0
      obtain ⟨wx, hwx⟩ : ∃ wx, wx = wr := ⟨_, rfl⟩
      rw [← hwx] at HS ⊢
      clear hwx
      go_wp2_with fail
      clear d1 hlt
      go_loopw [12, 13, 14, 15, 16] (fun i _ _ _ _ wr => ∃ j : Nat, j ≤ n' ∧ i = .int .i64 j ∧ Below wx.heap.size wx wr) (fun i _ _ _ _ _ => n' - (intOf i).toNat)
      case atStart => exact ⟨0, by omega, rfl, Below.refl _ _⟩
      case round =>
        obtain ⟨j, hj, rfl, hbj⟩ := hrel
        have HBJ := Lib.hid hbj
        have j0 : (0 : Int) ≤ (j : Int) := Int.natCast_nonneg _
        have hf20 := HF0.out.1
        by_cases hlt : j < n'
        · have hsr := HS.out.srs.later hbj
          have hj2 : (q j).ser ∈ sers q n' := by unfold sers; exact List.mem_map.2 ⟨j, List.mem_range.2 hlt, rfl⟩
          have hri := (HS.out.ok.each _ hj2).right
          have hrf := right_few (f := (q j).f) (n := (q j).ln) ((par_right (q j).f (q j).ln).symm.trans hri)
          have HRF := Lib.hid hrf
          have HRI := Lib.hid (Tr.rises par_good HS.out.ok hj2 ((List.range 0).map noMat) t 0 1 3)
          have HSI := Lib.hid (hsr.each j hlt)
          obtain ⟨ad, rfl, cc0, cc⟩ := hsr.row.at_ (Below.refl _ _) hlt
          have x0 := cc0 (by decide)
          have x1 := cc 1 (by decide) (by decide)
          have x2 := cc 2 (by decide) (by decide)
          have v0 : rx q j 0 = .slice (q j).la (q j).ln (q j).lc := rfl
          have v1 : rx q j 1 = .slice (q j).sa (q j).sn (q j).sc := rfl
          have v2 : rx q j 2 = .int .i64 (q j).last := rfl
          rw [v0] at x0; rw [v1] at x1; rw [v2] at x2
          have hsk := heap_keep HS.out.sk hbj
          have HSRJ := Lib.hid hsr
          have s0 : wr.cell? ⟨sb, 0, none⟩ = some (.slice (some ad) n' c') := cell_of_row _ _ _ _ _ _ hsk
          have s1 : wr.cell? ⟨sb, 1, none⟩ = some (.int .i64 fl) := cell_of_row _ _ _ _ _ _ hsk
          obtain ⟨w8, hw8⟩ : ∃ w8, w8 = wr.alloc (.cells #[.slice (q j).la (q j).ln (q j).lc, .slice (q j).sa (q j).sn (q j).sc, .int .i64 (q j).last] 48) := ⟨_, rfl⟩
          obtain ⟨xb, hxb⟩ : ∃ xb, xb = wr.heap.size := ⟨_, rfl⟩
          have hb8 : Below wr.heap.size wr w8 := by rw [hw8]; exact (Below.refl _ _).alloc (Nat.le_refl _) _
          have HX8 : Hid (w8.heap[xb]? = some (.cells #[.slice (q j).la (q j).ln (q j).lc, .slice (q j).sa (q j).sn (q j).sc, .int .i64 (q j).last] 48 (0, 0))) := Lib.hid (by rw [hw8, hxb]; exact heap_alloc_new wr _)
          have HB8 := Lib.hid hb8
          have HSK8 := Lib.hid (heap_keep hsk hb8)
          have hsl : sb < wr.heap.size := (Array.getElem?_eq_some_iff.1 hsk).1
          have d1 : decide ((j : Int) < (n' : Int)) = true := decide_eq_true (by omega)
          have i1 : (j : Int) < (n' : Int) := by omega
          have hsi8 := HSI.out.later hb8
          obtain ⟨r4, hr4⟩ : ∃ r, r = Tr.run par ⟨sers q n', fl⟩ (opL (q j).la (q j).ln (q j).lc (q j).f t 1).op 3 := ⟨_, rfl⟩
          have HD4 := Lib.hid (Do_any (some ad) n' c' q fl 3 (opL (q j).la (q j).ln (q j).lc (q j).f t 1) w8 (hsr.later hb8) (by have := HF0.out.1; omega) (fun i hi => Nat.le_trans (HF0.out.2 i hi) (by decide)) (opL_sm t 1 hsi8.labs hsi8.lnone (by have := HRF.out.2.1; omega) (fun i hi => ⟨Nat.le_trans (HRF.out.2.2 i hi).1 (by decide), Nat.le_trans (HRF.out.2.2 i hi).2 (by decide)⟩)))
          rw [← hr4] at HD4
          have HR4 := Lib.hid hr4
          clear hr4
          clear cc0 cc v0 v1 v2 hsr hj2 hri hrf hsi8 hb8 hsk hbj
          go_wp2_with fail
          rw [← hw8, ← hxb]
          clear hw8 hxb x0 x1 x2 s0 s1
          refine HD4.out.mono ?_; rintro e w4 ⟨A4, n4, c4, q4, B4, m4, d4, aq4, C4, k4, f4, rr4, rfl, hs4, hse4, hsa4, hsea4, -, hre4, hbl4, -, -⟩
          obtain ⟨fl4, hfl4⟩ : ∃ x, x = r4.1.floor := ⟨_, rfl⟩
          obtain ⟨er4, her4⟩ : ∃ x, x = r4.2.1.err := ⟨_, rfl⟩
          obtain ⟨cn4, hcn4⟩ : ∃ x, x = r4.2.1.n := ⟨_, rfl⟩
          rw [← hfl4, ← her4, ← hcn4]
          have HE4 := Lib.hid (st_eq hse4 hfl4)
          have HER4 := Lib.hid her4; have HCN4 := Lib.hid hcn4; have HAQ4 := Lib.hid hsea4
          have HRC4 : Hid (k4 = r4.2.2.length) := Lib.hid (by rw [← hre4, recsL_len])
          have hlen4 : n4 = r4.1.ser.length := by rw [← hse4, sers_length]
          have HLN4 := Lib.hid hlen4
          clear hse4 hfl4 her4 hcn4 hsea4 hre4 hlen4 HD4
          have HB4' := Lib.hid hbl4
          obtain ⟨hb4, hX4, hY4⟩ := two_laid w4 (.slice A4 n4 c4) (.int .i64 fl4) (.int .i64 er4) (.int .i64 cn4) (.slice B4 m4 d4)
          obtain ⟨W4, hW4⟩ : ∃ W4, W4 = (w4.alloc (.cells #[.slice A4 n4 c4, .int .i64 fl4] 28)).alloc (.cells #[.int .i64 er4, .int .i64 cn4, .slice B4 m4 d4] 31) := ⟨_, rfl⟩
          rw [← hW4] at hb4 hX4 hY4
          obtain ⟨b4, hbb4⟩ : ∃ b4, b4 = w4.heap.size := ⟨_, rfl⟩
          rw [← hbb4] at hX4 hY4
          have HX4 := Lib.hid hX4; have HY4 := Lib.hid hY4; have HBL4 := Lib.hid hbl4
          have HB4 := Lib.hid (below_step hbl4 hb4)
          have HS4 := Lib.hid (hs4.later hb4); have HSA4 := Lib.hid (hsa4.later hb4)
          clear hX4 hY4 hbl4 hb4 hs4 hsa4
          have HN := Lib.hid (below_step HBJ.out (below_step HB8.out HB4.out))
          go_upto_region 20 with (fail)
          rw [← hW4, ← hbb4]
          clear hW4 hbb4
          have hsk4 := heap_keep HSK8.out HB4.out
          have s1 : W4.cell? ⟨sb, 1, none⟩ = some (.int .i64 fl) := cell_of_row _ _ _ _ _ _ hsk4
          have z2 : W4.cell? ⟨xb, 2, none⟩ = some (.int .i64 (q j).last) := cell_of_row _ _ _ _ _ _ (heap_keep HX8.out HB4.out)
          have y0 : W4.cell? ⟨b4 + 1, 0, none⟩ = some (.int .i64 er4) := cell_of_row _ _ _ _ _ _ HY4.out
          have h1 : (t < fl ∨ t < (q j).last) → er4 ≠ 0 ∧ k4 = 0 := fun h => by
            obtain ⟨a1, a2⟩ := HRI.out.1 h
            refine ⟨by rw [HER4.out, HR4.out]; exact a1, by rw [HRC4.out, HR4.out]; exact congrArg List.length a2⟩
          have h2 : k4 ≠ 0 → (q j).last < t ∧ fl ≤ t := fun h => HRI.out.2 (fun h3 => h (by rw [HRC4.out, HR4.out]; exact congrArg List.length h3))
          clear hsk4 HRI HER4 HR4 HRC4
          generalize (q j).last = la at *
          by_cases q1 : t < fl
          · obtain ⟨e1, e2⟩ := h1 (.inl q1)
            subst e2
            have d2 : decide (t < fl) = true := decide_eq_true q1
            have d3 : decide (er4 = 0) = false := decide_eq_false e1
            have d4 : (er4 == 0) = false := by simpa using e1
            clear h1 h2
            go_wp2_with fail
            go_roundw
            case rel => exact ⟨j + 1, by omega, by go_num, HN.out⟩
            case measure => simp [intOf]; omega
          · have d2 : decide (t < fl) = false := decide_eq_false q1
            by_cases q2 : t < la
            · obtain ⟨e1, e2⟩ := h1 (.inr q2)
              subst e2
              have d5 : decide (t < la) = true := decide_eq_true q2
              have d3 : decide (er4 = 0) = false := decide_eq_false e1
              have d4 : (er4 == 0) = false := by simpa using e1
              clear h1 h2
              go_wp2_with fail
              go_roundw
              case rel => exact ⟨j + 1, by omega, by go_num, HN.out⟩
              case measure => simp [intOf]; omega
            · have d5 : decide (t < la) = false := decide_eq_false q2
              by_cases q3 : k4 = 0
              · subst q3
                clear h1 h2
                go_wp2_with fail
                go_roundw
                case rel => exact ⟨j + 1, by omega, by go_num, HN.out⟩
                case measure => simp [intOf]; omega
              · obtain ⟨e1, e2⟩ := h2 q3
                have q4 : ¬ t ≤ la := by omega
                have d6 : decide (t ≤ la) = false := decide_eq_false q4
                have d7 : decide ((0 : Int) < (k4 : Int)) = true := decide_eq_true (by omega)
                have d8 : decide (0 < k4) = true := decide_eq_true (by omega)
                clear h1 h2
                go_wp2_with fail
                go_roundw
                case rel => exact ⟨j + 1, by omega, by go_num, HN.out⟩
                case measure => simp [intOf]; omega
        · have hsk := heap_keep HS.out.sk hbj
          have s0 : wr.cell? ⟨sb, 0, none⟩ = some (.slice A' n' c') := cell_of_row _ _ _ _ _ _ hsk
          have d1 : decide ((j : Int) < (n' : Int)) = false := decide_eq_false (by omega)
          clear hsk hbj
          go_wp2_with fail
          go_ret
          exact ⟨rfl, below_step HS.out.bel HBJ.out⟩
set_option maxRecDepth 100000 in
theorem truthRises_walk {H : Type} {enc : TypeId × Value → H} {r : Reach} {b0 : Nat} {a : Value} {d : DataW H} {p : List MemPlace} (w : World)
    (hv : Value.okWide Try.prog w r b0 22 a) (h : DataW.Trod enc Try.prog w 0 (fun _ => true) true 22 a d p) (t : Int) (_ht : (Lit.int .i64 t).wf = true) :
    Calls Try.prog 5 #[a, .int .i64 t] w fun e w' => e = .returned (.bool true) ∧ Below w.heap.size w w' := by
  obtain ⟨A, n, c, o, rfl, hn, hA, ho⟩ := open_ops hv h
  exact truthRises_walk0 w A n c hn o hA ho t
end Go.Proofs.Ytidfanmfibbiiaa
