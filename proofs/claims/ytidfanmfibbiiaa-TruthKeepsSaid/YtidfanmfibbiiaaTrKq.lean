/-
  The reference's Answers of answers that are alike.
-/
import Derived.Test.YtidfanmfibbiiaaTrHe
import Derived.Test.YtidfanmfibbiiaaLaT
import Derived.Test.YtidfanmfibbiiaaMaH
namespace Go.Proofs.Ytidfanmfibbiiaa
open Go.RowKit
theorem row_other {w : World} {A : Option Addr} {n k : Nat} {f g : Nat → Nat → Value} (h : Row k f w A n) (he : ∀ i, i < n → ∀ j, j < k → f i j = g i j) : Row k g w A n := fun hn => by
  obtain ⟨a, e, h1, h2⟩ := h hn
  exact ⟨a, e, h1, fun i hi j hj => by rw [h2 i hi j hj, he i hi j hj]⟩
theorem sam_at {s u : Nat → Sam} {n m : Nat} (h : (List.range n).map s = (List.range m).map u) : n = m ∧ ∀ i, i < n → s i = u i := by
  have hn : n = m := by simpa using congrArg List.length h
  subst hn
  refine ⟨rfl, fun i hi => ?_⟩
  have := congrArg (fun L => L[i]?) h
  simpa [hi] using this
set_option maxRecDepth 100000 in
set_option maxHeartbeats 4000000 in
theorem rSer_any (A B : Option Addr) (n c m d : Nat) (q p : Nat → SerAt) (w : World) (hA : Sers w A n c q) (hB : Sers w B m d p) (he : sers q n = sers p m) :
    Calls Try.prog 34 #[.slice A n c, .slice B m d] w fun e w' => e = .returned (.bool true) ∧ Below w.heap.size w w' := by
  obtain ⟨hnm, hall⟩ := sers_eq.1 he
  subst hnm
  have hn := hA.few
  have HA := Lib.hid hA; have HB := Lib.hid hB; have HALL := Lib.hid hall
  clear hA hB hall he
  go_enter Try.func34, Try.ntmps34
  go_wp2_with fail
  go_loopw [5] (fun i wr => ∃ k : Nat, k ≤ n ∧ i = .int .i64 k ∧ Below w.heap.size w wr) (fun i _ => n - (intOf i).toNat)
  case atStart => exact ⟨0, by omega, rfl, Below.refl _ _⟩
  case round =>
    obtain ⟨k, hk, rfl, hb⟩ := hrel
    have HBL := Lib.hid hb; clear hb
    have i0 : (0 : Int) ≤ (k : Int) := by omega
    by_cases hlt : k < n
    · obtain ⟨ad, rfl, c0, c1⟩ := HA.out.row.at_ HBL.out hlt
      obtain ⟨bd, rfl, e0, e1⟩ := HB.out.row.at_ HBL.out hlt
      have hEq := HA.out.each k hlt
      have hEp := HB.out.each k hlt
      obtain ⟨hl, hla, hs⟩ := ser_eq.1 (HALL.out k hlt)
      have hlab := (La.same_iff (q k).f (p k).f (q k).ln (p k).ln).2 hl
      obtain ⟨hsn, hsm⟩ := sam_at hs
      have i1 : (k : Int) < (n : Int) := by omega
      have d1 : decide ((k : Int) < (n : Int)) = true := decide_eq_true i1
      have HSA := Lib.hid (fun W (hb : Below w.heap.size w W) => rSame_any (q k).la (p k).la (q k).ln (p k).ln (q k).lc (p k).lc (Nat.le_trans hEq.lfew (by unfold maxLen; omega)) (q k).f (p k).f W (hEq.labs.later hb) (hEp.labs.later hb))
      rw [hlab] at HSA
      have HSM := Lib.hid (fun W (hb : Below w.heap.size w W) => rSamS_any (q k).sa (p k).sa (q k).sn (q k).sc (p k).sc (Nat.le_trans hEq.sfew (by omega)) (q k).s W (hEq.sams.later hb) (by
        have h := hEp.sams.later hb
        rw [← hsn] at h
        exact row_other h (fun i hi j hj => by unfold sx; rw [hsm i hi])))
      have HSN := Lib.hid hsn
      have HX : Hid (∀ U, Below wr.heap.size wr U → U.cell? (ad.add (k * 3)) = some (.slice (q k).la (q k).ln (q k).lc) ∧ U.cell? ⟨(ad.add (k * 3)).block, (ad.add (k * 3)).off + 1, none⟩ = some (.slice (q k).sa (q k).sn (q k).sc) ∧ U.cell? ⟨(ad.add (k * 3)).block, (ad.add (k * 3)).off + 2, none⟩ = some (.int .i64 (q k).last) ∧
          U.cell? (bd.add (k * 3)) = some (.slice (p k).la (p k).ln (p k).lc) ∧ U.cell? ⟨(bd.add (k * 3)).block, (bd.add (k * 3)).off + 1, none⟩ = some (.slice (p k).sa (q k).sn (p k).sc) ∧ U.cell? ⟨(bd.add (k * 3)).block, (bd.add (k * 3)).off + 2, none⟩ = some (.int .i64 (q k).last)) := Lib.hid (fun U hU =>
        ⟨cell_keep (c0 (by decide)) hU, cell_keep (c1 1 (by omega) (by omega)) hU, cell_keep (c1 2 (by omega) (by omega)) hU, cell_keep (e0 (by decide)) hU, by rw [hsn]; exact cell_keep (e1 1 (by omega) (by omega)) hU, by rw [hla]; exact cell_keep (e1 2 (by omega) (by omega)) hU⟩)
      clear c0 c1 e0 e1 hEq hEp hl hla hs hlab hsn hsm
      go_wp2_with fail
      refine plain_T (fun U => Below wr.heap.size wr U) [] (by kernel_rfl) ?_
      have HD : Hid (Below wr.heap.size wr wr.drew) := Lib.hid (Below.refl _ _).drew
      generalize wr.drew = wd at HD ⊢
      refine wpAnyT_pick (S := (fun U => Below wr.heap.size wr U)) (by kernel_rfl) Only.panic Only.keepsIn (w := wd) HD.out [0, 1, 2, 3, 4, 5, 6, 7, 8, 9, 10, 11, 12, 13, 14, 15, 16, 17, 18, 19, 20, 21] 17 _ _ (by kernel_rfl) ?_
      refine PickT.value (d := some 17) (.slice (some ad) n c) rfl rfl (by kernel_rfl) (fun U hU => (by go_simp)) ?_
      refine PickT.value (d := some 18) (.int .i64 (k : Int)) rfl rfl (by kernel_rfl) (fun U hU => (by go_simp)) ?_
      refine PickT.value (d := some 19) (.pointer (some (ad.add (k * 3)))) rfl rfl (by kernel_rfl) (fun U hU => (by go_simp)) ?_
      refine PickT.value (d := some 20) (.pointer (some ⟨(ad.add (k * 3)).block, (ad.add (k * 3)).off + 2, none⟩)) rfl rfl (by kernel_rfl) (fun U hU => (by go_simp)) ?_
      refine PickT.value (d := some 21) (.int .i64 (q k).last) rfl rfl (by kernel_rfl) (fun U hU => (by obtain ⟨h0, h1, h2, h3, h4, h5⟩ := HX.out U hU; go_simp)) ?_
      refine PickT.value (d := some 22) (.slice (some bd) n d) rfl rfl (by kernel_rfl) (fun U hU => (by go_simp)) ?_
      refine PickT.value (d := some 23) (.int .i64 (k : Int)) rfl rfl (by kernel_rfl) (fun U hU => (by go_simp)) ?_
      refine PickT.value (d := some 24) (.pointer (some (bd.add (k * 3)))) rfl rfl (by kernel_rfl) (fun U hU => (by go_simp)) ?_
      refine PickT.value (d := some 25) (.pointer (some ⟨(bd.add (k * 3)).block, (bd.add (k * 3)).off + 2, none⟩)) rfl rfl (by kernel_rfl) (fun U hU => (by go_simp)) ?_
      refine PickT.value (d := some 26) (.int .i64 (q k).last) rfl rfl (by kernel_rfl) (fun U hU => (by obtain ⟨h0, h1, h2, h3, h4, h5⟩ := HX.out U hU; go_simp)) ?_
      refine PickT.value (d := some 27) (.bool false) rfl rfl (by kernel_rfl) (fun U hU => (by go_simp)) ?_
      refine PickT.value (d := some 28) (.bool false) rfl rfl (by kernel_rfl) (fun U hU => (by go_simp)) ?_
      refine PickT.value (d := some 29) (.slice (some ad) n c) rfl rfl (by kernel_rfl) (fun U hU => (by go_simp)) ?_
      refine PickT.value (d := some 30) (.int .i64 (k : Int)) rfl rfl (by kernel_rfl) (fun U hU => (by go_simp)) ?_
      refine PickT.value (d := some 31) (.pointer (some (ad.add (k * 3)))) rfl rfl (by kernel_rfl) (fun U hU => (by go_simp)) ?_
      refine PickT.value (d := some 32) (.pointer (some (ad.add (k * 3)))) rfl rfl (by kernel_rfl) (fun U hU => (by go_simp)) ?_
      refine PickT.value (d := some 33) (.slice (q k).la (q k).ln (q k).lc) rfl rfl (by kernel_rfl) (fun U hU => (by obtain ⟨h0, h1, h2, h3, h4, h5⟩ := HX.out U hU; go_simp)) ?_
      refine PickT.value (d := some 34) (.slice (some bd) n d) rfl rfl (by kernel_rfl) (fun U hU => (by go_simp)) ?_
      refine PickT.value (d := some 35) (.int .i64 (k : Int)) rfl rfl (by kernel_rfl) (fun U hU => (by go_simp)) ?_
      refine PickT.value (d := some 36) (.pointer (some (bd.add (k * 3)))) rfl rfl (by kernel_rfl) (fun U hU => (by go_simp)) ?_
      refine PickT.value (d := some 37) (.pointer (some (bd.add (k * 3)))) rfl rfl (by kernel_rfl) (fun U hU => (by go_simp)) ?_
      refine PickT.value (d := some 38) (.slice (p k).la (p k).ln (p k).lc) rfl rfl (by kernel_rfl) (fun U hU => (by obtain ⟨h0, h1, h2, h3, h4, h5⟩ := HX.out U hU; go_simp)) ?_
      simp only [PickT, Act.put, List.setIfInBounds_toArray, List.set_cons_zero, List.set_cons_succ]
      refine wpAnyT_one (i := 22) (by kernel_rfl) rfl (by kernel_rfl) ?_
      intro K hK
      unfold Oper.wp
      go_simp
      refine (HSA.out _ (below_step HBL.out HD.out)).mono ?_; rintro e w9 ⟨rfl, hb9⟩
      have HB9 := Lib.hid (below_step HD.out hb9)
      clear hb9 HSA
      refine hK _ _ (fun _ => HB9.out) ?_
      clear hK K
      refine wpAnyT_pick (S := (fun U => Below wr.heap.size wr U)) (by kernel_rfl) Only.panic Only.keepsIn (w := w9) HB9.out [23, 24, 25, 26, 27, 28, 29, 30, 31, 32, 33, 34, 35] 3 _ _ (by kernel_rfl) ?_
      refine PickT.value (d := some 40) (.bool false) rfl rfl (by kernel_rfl) (fun U hU => (by go_simp)) ?_
      refine PickT.value (d := some 41) (.bool false) rfl rfl (by kernel_rfl) (fun U hU => (by go_simp)) ?_
      refine PickT.value (d := some 42) (.bool false) rfl rfl (by kernel_rfl) (fun U hU => (by go_simp)) ?_
      refine PickT.value (d := some 43) (.slice (some ad) n c) rfl rfl (by kernel_rfl) (fun U hU => (by go_simp)) ?_
      refine PickT.value (d := some 44) (.int .i64 (k : Int)) rfl rfl (by kernel_rfl) (fun U hU => (by go_simp)) ?_
      refine PickT.value (d := some 45) (.pointer (some (ad.add (k * 3)))) rfl rfl (by kernel_rfl) (fun U hU => (by go_simp)) ?_
      refine PickT.value (d := some 46) (.pointer (some ⟨(ad.add (k * 3)).block, (ad.add (k * 3)).off + 1, none⟩)) rfl rfl (by kernel_rfl) (fun U hU => (by go_simp)) ?_
      refine PickT.value (d := some 47) (.slice (q k).sa (q k).sn (q k).sc) rfl rfl (by kernel_rfl) (fun U hU => (by obtain ⟨h0, h1, h2, h3, h4, h5⟩ := HX.out U hU; go_simp)) ?_
      refine PickT.value (d := some 48) (.slice (some bd) n d) rfl rfl (by kernel_rfl) (fun U hU => (by go_simp)) ?_
      refine PickT.value (d := some 49) (.int .i64 (k : Int)) rfl rfl (by kernel_rfl) (fun U hU => (by go_simp)) ?_
      refine PickT.value (d := some 50) (.pointer (some (bd.add (k * 3)))) rfl rfl (by kernel_rfl) (fun U hU => (by go_simp)) ?_
      refine PickT.value (d := some 51) (.pointer (some ⟨(bd.add (k * 3)).block, (bd.add (k * 3)).off + 1, none⟩)) rfl rfl (by kernel_rfl) (fun U hU => (by go_simp)) ?_
      refine PickT.value (d := some 52) (.slice (p k).sa (q k).sn (p k).sc) rfl rfl (by kernel_rfl) (fun U hU => (by obtain ⟨h0, h1, h2, h3, h4, h5⟩ := HX.out U hU; go_simp)) ?_
      simp only [PickT, Act.put, List.setIfInBounds_toArray, List.set_cons_zero, List.set_cons_succ]
      have HSM := Lib.hid (HSM.out _ (below_step HBL.out HB9.out))
      refine wpAnyT_one (i := 36) (by kernel_rfl) rfl (by kernel_rfl) ?_
      intro K hK
      unfold Oper.wp
      go_simp
      refine HSM.out.mono ?_; rintro e w10 ⟨rfl, hb10⟩
      have HB10 := Lib.hid (below_step HB9.out hb10)
      clear hb10 HSM
      refine hK _ _ (fun _ => HB10.out) ?_
      clear hK K
      refine wpAnyT_pick (S := (fun U => Below wr.heap.size wr U)) (by kernel_rfl) Only.panic Only.keepsIn (w := w10) HB10.out [37, 38] 0 _ _ (by kernel_rfl) ?_
      refine PickT.value (d := some 54) (.bool false) rfl rfl (by kernel_rfl) (fun U hU => (by go_simp)) ?_
      refine PickT.value (d := some 55) (.bool false) rfl rfl (by kernel_rfl) (fun U hU => (by go_simp)) ?_
      simp only [PickT, Act.put, List.setIfInBounds_toArray, List.set_cons_zero, List.set_cons_succ]
      refine wpAnyT_done (by kernel_rfl) ?_ _
      refine only_mk ?_
      have HBN := Lib.hid (below_step HBL.out HB10.out)
      go_wp2_with fail
      go_roundw
      case rel => exact ⟨k + 1, by omega, by go_num, HBN.out⟩
      case measure => simp [intOf]; omega
    · have d1 : decide ((k : Int) < (n : Int)) = false := decide_eq_false (by omega)
      go_wp2_with fail
      go_ret
      exact ⟨rfl, HBL.out⟩
set_option maxRecDepth 100000 in
set_option maxHeartbeats 4000000 in
theorem rAns_any (A B : Option Addr) (n c m d : Nat) (q p : Nat → SerAt) (er cn : Int) (w : World) (hA : Sers w A n c q) (hB : Sers w B m d p) (he : sers q n = sers p m) :
    Calls Try.prog 18 #[.agg #[.int .i64 er, .int .i64 cn, .slice A n c], .agg #[.int .i64 er, .int .i64 cn, .slice B m d]] w fun e w' => e = .returned (.bool true) ∧ Below w.heap.size w w' := by
  obtain ⟨w1, hw1⟩ : ∃ w1, w1 = (w.alloc (.cells #[.int .i64 er, .int .i64 cn, .slice A n c] 31)).alloc (.cells #[.int .i64 er, .int .i64 cn, .slice B m d] 31) := ⟨_, rfl⟩
  have hb1 : Below w.heap.size w w1 := by rw [hw1]; exact ((Below.refl _ _).alloc (Nat.le_refl _) _).alloc (by simp) _
  have HB1 := Lib.hid hb1
  have HS := Lib.hid (rSer_any A B n c m d q p w1 (hA.later hb1) (hB.later hb1) he)
  clear hA hB hb1 he
  go_enter Try.func18, Try.ntmps18
  go_wp2_with fail
  rw [← hw1]
  clear hw1
  refine HS.out.mono ?_; rintro e w2 ⟨rfl, hb2⟩
  have HB2 := Lib.hid (below_step HB1.out hb2)
  clear hb2
  go_wp2_with fail
  go_ret
  exact ⟨rfl, HB2.out⟩
end Go.Proofs.Ytidfanmfibbiiaa
