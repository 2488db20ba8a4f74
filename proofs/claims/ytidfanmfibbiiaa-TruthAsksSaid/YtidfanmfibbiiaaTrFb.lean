import Derived.Test.YtidfanmfibbiiaaTrEc
import Derived.Deep.QuietTactic
import Derived.BigQuiet
/-
  What Valid comes to, of states that may be.
-/
namespace Go.Proofs.Ytidfanmfibbiiaa
open Go.RowKit
theorem below_drew {w W : World} (h : DrewOf w W) : Below w.heap.size w W := (Below.refl w.heap.size w).grown (DrewOf.grown h none) (Nat.le_refl _) (fun r (e : none = some r) => by cases e)
set_option maxRecDepth 100000 in
set_option maxHeartbeats 4000000 in
theorem validSeries_yes (q : SerAt) (fl : Int) (w : World) (hq : SerIn w q) (hok : Tr.SerOk par fl q.ser) :
    Calls Try.prog 30 #[.agg #[.slice q.la q.ln q.lc, .slice q.sa q.sn q.sc, .int .i64 q.last], .int .i64 fl] w fun e w' => e = .returned (.bool true) ∧ Below w.heap.size w w' := by
  have hb1 := (Below.refl w.heap.size w).alloc (Nat.le_refl _) (.cells #[.slice q.la q.ln q.lc, .slice q.sa q.sn q.sc, .int .i64 q.last] 48)
  obtain ⟨w1, hw1⟩ : ∃ w1, w1 = w.alloc (.cells #[.slice q.la q.ln q.lc, .slice q.sa q.sn q.sc, .int .i64 q.last] 48) := ⟨_, rfl⟩
  have hx1 : w1.heap[w.heap.size]? = some (.cells #[.slice q.la q.ln q.lc, .slice q.sa q.sn q.sc, .int .i64 q.last] 48 (0, 0)) := by rw [hw1]; exact heap_alloc_new w _
  rw [← hw1] at hb1
  have hq1 := hq.later hb1
  have HB1 := Lib.hid hb1; have HX1 := Lib.hid hx1; have HQ1 := Lib.hid hq1
  have hright : La.right q.f q.ln = true := by rw [← par_right]; exact hok.right
  have hlen : q.sn ≤ 200 := by
    have := hok.len
    have e : q.ser.s.length = q.sn := by show ((List.range q.sn).map q.s).length = _; simp
    omega
  have hsorted : Ma.rising q.s q.sn = true := by
    unfold Ma.rising
    rw [List.all_eq_true]
    intro i hi
    have hi2 := List.mem_range.1 hi
    have h := List.pairwise_iff_getElem.1 hok.rise i (i + 1) (by show i < ((List.range q.sn).map q.s).length; simp; omega) (by show i + 1 < ((List.range q.sn).map q.s).length; simp; omega) (by omega)
    have e1 : q.ser.s = (List.range q.sn).map q.s := rfl
    simp only [e1, List.getElem_map, List.getElem_range] at h
    exact decide_eq_true h
  have HCK := Lib.hid (Check_any q.la q.ln q.lc (Nat.le_trans hq.lfew (by unfold maxLen; decide)) q.f (fun i hi => ⟨size_max (hq.lsize i hi).1, size_max (hq.lsize i hi).2⟩) w1 hq1.labs)
  have HSO := Lib.hid (fun W (hb : Below w1.heap.size w1 W) => Sorted_any q.sa q.sn q.sc (Nat.le_trans hq.sfew (by decide)) q.s W (hq1.sams.later hb))
  have hlast : ¬ (1125899906842624 : Int) < q.last := by have := hok.last; show ¬ _; have e : q.ser.last = q.last := rfl; omega
  have hlive : fl ≤ q.last := hok.live
  have HOK := Lib.hid hok
  have hr0 : ((La.err (La.right q.f q.ln) : Nat) : Int) = 0 := by rw [hright]; rfl
  have HR0 := Lib.hid hr0; have HSR := Lib.hid hsorted
  clear hq hok hb1 hx1 hq1 hright hsorted hr0
  have d200 : decide ((200 : Int) < (q.sn : Int)) = false := decide_eq_false (by omega)
  go_enter Try.func30, Try.ntmps30
  go_wp2_with fail
  rw [← hw1]
  clear hw1
  refine HCK.out.mono ?_; rintro e w2 ⟨rfl, hb2⟩
  rw [HR0.out]
  have HB2 := Lib.hid hb2
  have hx2 := heap_keep HX1.out hb2
  have y1 : w2.cell? ⟨w.heap.size, 1, none⟩ = some (.slice q.sa q.sn q.sc) := cell_of_row _ _ _ _ _ _ hx2
  clear hb2 hx2
  go_wp2_with fail
  refine (HSO.out _ HB2.out).mono ?_; rintro e w3 ⟨rfl, hd3⟩
  rw [HSR.out]
  have HB3 := Lib.hid (below_step HB2.out (below_drew hd3))
  have hx3 := heap_keep HX1.out HB3.out
  have z1 : w3.cell? ⟨w.heap.size, 1, none⟩ = some (.slice q.sa q.sn q.sc) := cell_of_row _ _ _ _ _ _ hx3
  have z2 : w3.cell? ⟨w.heap.size, 2, none⟩ = some (.int .i64 q.last) := cell_of_row _ _ _ _ _ _ hx3
  clear hd3 hx3 y1
  have HFIN : Hid (Below w.heap.size w w3) := Lib.hid (below_step HB1.out HB3.out)
  by_cases hn : q.sn = 0
  · have b0 : ((q.sn : Int) == 0) = true := by simp [hn]
    have d0 : decide (fl ≤ q.last) = true := decide_eq_true hlive
    clear hn
    go_wp2_with fail
    go_ret
    exact ⟨rfl, HFIN.out⟩
  · have b0 : ((q.sn : Int) == 0) = false := by simp [hn]
    obtain ⟨m, hm⟩ : ∃ m, q.sn = m + 1 := ⟨q.sn - 1, by omega⟩
    have hmem : ∀ i, i < q.sn → q.s i ∈ q.ser.s := fun i hi => List.mem_map.2 ⟨i, List.mem_range.2 hi, rfl⟩
    have hlo := HOK.out.low _ (hmem 0 (by omega))
    have hhi := HOK.out.high _ (hmem m (by omega))
    have e9 : q.ser.last = q.last := rfl
    rw [e9] at hhi
    have hsam := (HQ1.out.sams.later HB3.out)
    obtain ⟨ad, hsa, c0, -⟩ := hsam.at_ (Below.refl _ _) (show 0 < q.sn by omega)
    obtain ⟨ad2, hsa2, c1, -⟩ := hsam.at_ (Below.refl _ _) (show m < q.sn by omega)
    rw [hsa] at hsa2
    cases hsa2
    have x0 := c0 (by decide)
    have x1 := c1 (by decide)
    have v0 : sx q.s 0 0 = .int .i64 (q.s 0).t := rfl
    have v1 : sx q.s m 0 = .int .i64 (q.s m).t := rfl
    rw [v0] at x0; rw [v1] at x1
    rw [hsa] at z1
    have HS1 := Lib.hid hsa
    have d0 : decide (fl ≤ (q.s 0).t) = true := decide_eq_true hlo
    have d1 : decide ((q.s m).t ≤ q.last) = true := decide_eq_true hhi
    clear hmem e9 hlo hhi hsam c0 c1 v0 v1 hn hsa hlive
    generalize (q.s 0).t = t0 at *
    generalize (q.s m).t = tm at *
    have i0 : (0 : Int) < (q.sn : Int) := by omega
    have i1 : (m : Int) < (q.sn : Int) := by omega
    have i2 : (0 : Int) ≤ (m : Int) := by omega
    have hmm : (q.sn : Int) - 1 = (m : Int) := by omega
    have j1 : wrap64 ((q.sn : Int) - 1) = (m : Int) := by rw [hmm]; exact IntWalk.wrap64_in _ (by omega)
    have j2 : IntKind.i64.wrap ((q.sn : Int) - 1) = (m : Int) := by rw [hmm]; exact IntWalk.i64_in _ (by omega)
    have dl : decide ((1125899906842624 : Int) < q.last) = false := decide_eq_false (Int.not_lt.2 hlast)
    clear hm hmm
    go_wp2_with fail
    have HC0 : Hid (w3.cell? ad = some (.int .i64 t0)) := Lib.hid (by
      have ha : ad.add (0 * 2) = ad := by
        obtain ⟨p, o, sp⟩ := ad
        unfold Addr.add
        split <;> simp_all
      rw [ha] at x0
      exact x0)
    have HC1 := Lib.hid x1
    have hnz : ¬ q.sn = 0 := by omega
    clear x0 x1
    refine plain_T (fun U => Below w3.heap.size w3 U) [] (by kernel_rfl) ?_
    have HD : Hid (Below w3.heap.size w3 w3.drew) := Lib.hid (Below.refl _ _).drew
    generalize w3.drew = wd at HD ⊢
    refine wpAnyT_pick (S := (fun U => Below w3.heap.size w3 U)) (by kernel_rfl) Only.panic Only.keepsIn (w := wd) HD.out [0, 1, 2, 3, 4, 5, 6, 7, 8, 9, 10, 11, 12, 13, 14, 15, 16, 17, 18, 19] 0 _ _ (by kernel_rfl) ?_
    refine PickT.value (d := some 34) (.pointer (some ⟨w.heap.size, 1, none⟩)) rfl rfl (by kernel_rfl) (fun U hU => (by go_simp)) ?_
    refine PickT.value (d := some 35) (.slice (some ad) q.sn q.sc) rfl rfl (by kernel_rfl) (fun U hU => (by have h0 : U.cell? ⟨w.heap.size, 1, none⟩ = some (.slice (some ad) q.sn q.sc) := cell_keep z1 hU; go_simp)) ?_
    refine PickT.value (d := some 36) (.pointer (some (ad.add (0 * 2)))) rfl rfl (by kernel_rfl) (fun U hU => (by go_simp)) ?_
    refine PickT.value (d := some 37) (.pointer (some (ad.add (0 * 2)))) rfl rfl (by kernel_rfl) (fun U hU => (by go_simp)) ?_
    refine PickT.value (d := some 38) (.int .i64 t0) rfl rfl (by kernel_rfl) (fun U hU => (by have h0 := cell_keep HC0.out hU; go_simp)) ?_
    refine PickT.value (d := some 39) (.int .i64 fl) rfl rfl (by kernel_rfl) (fun U hU => (by go_simp)) ?_
    refine PickT.value (d := some 40) (.bool true) rfl rfl (by kernel_rfl) (fun U hU => (by go_simp)) ?_
    refine PickT.value (d := some 41) (.bool true) rfl rfl (by kernel_rfl) (fun U hU => (by go_simp)) ?_
    refine PickT.value (d := some 42) (.pointer (some ⟨w.heap.size, 1, none⟩)) rfl rfl (by kernel_rfl) (fun U hU => (by go_simp)) ?_
    refine PickT.value (d := some 43) (.slice (some ad) q.sn q.sc) rfl rfl (by kernel_rfl) (fun U hU => (by have h0 : U.cell? ⟨w.heap.size, 1, none⟩ = some (.slice (some ad) q.sn q.sc) := cell_keep z1 hU; go_simp)) ?_
    refine PickT.value (d := some 44) (.int .i64 (q.sn : Int)) rfl rfl (by kernel_rfl) (fun U hU => (by go_simp)) ?_
    refine PickT.value (d := some 45) (.int .i64 (m : Int)) rfl rfl (by kernel_rfl) (fun U hU => (by go_simp)) ?_
    refine PickT.value (d := some 46) (.pointer (some (ad.add (m * 2)))) rfl rfl (by kernel_rfl) (fun U hU => (by go_simp)) ?_
    refine PickT.value (d := some 47) (.pointer (some (ad.add (m * 2)))) rfl rfl (by kernel_rfl) (fun U hU => (by go_simp)) ?_
    refine PickT.value (d := some 48) (.int .i64 tm) rfl rfl (by kernel_rfl) (fun U hU => (by have h0 := cell_keep HC1.out hU; go_simp)) ?_
    refine PickT.value (d := some 49) (.pointer (some ⟨w.heap.size, 2, none⟩)) rfl rfl (by kernel_rfl) (fun U hU => (by go_simp)) ?_
    refine PickT.value (d := some 50) (.int .i64 q.last) rfl rfl (by kernel_rfl) (fun U hU => (by have h0 : U.cell? ⟨w.heap.size, 2, none⟩ = some (.int .i64 q.last) := cell_keep z2 hU; go_simp)) ?_
    refine PickT.value (d := some 51) (.bool true) rfl rfl (by kernel_rfl) (fun U hU => (by go_simp)) ?_
    refine PickT.value (d := some 52) (.bool true) rfl rfl (by kernel_rfl) (fun U hU => (by go_simp)) ?_
    refine PickT.value (d := some 4) (.bool true) rfl rfl (by kernel_rfl) (fun U hU => (by go_simp)) ?_
    simp only [PickT, Act.put, List.setIfInBounds_toArray, List.set_cons_zero, List.set_cons_succ]
    refine wpAnyT_done (by kernel_rfl) ?_ _
    refine only_mk ?_
    go_wp2_with fail
    go_ret
    exact ⟨rfl, below_step HFIN.out HD.out⟩
end Go.Proofs.Ytidfanmfibbiiaa
/-
  What Valid comes to, of states that may be: the walk.
-/
namespace Go.Proofs.Ytidfanmfibbiiaa
open Go.RowKit
set_option maxRecDepth 100000 in
set_option maxHeartbeats 4000000 in
theorem Valid_yes (A : Option Addr) (n c : Nat) (q : Nat → SerAt) (fl : Int) (w : World) (hA : Sers w A n c q) (hok : Tr.Ok par ⟨sers q n, fl⟩) :
    Calls Try.prog 14 #[.agg #[.slice A n c, .int .i64 fl]] w fun e w' => e = .returned (.bool true) ∧ Below w.heap.size w w' := by
  obtain ⟨w1, hw1⟩ : ∃ w1, w1 = w.alloc (.cells #[.slice A n c, .int .i64 fl] 28) := ⟨_, rfl⟩
  have hb1 : Below w.heap.size w w1 := by rw [hw1]; exact (Below.refl _ _).alloc (Nat.le_refl _) _
  have hx1 : w1.heap[w.heap.size]? = some (.cells #[.slice A n c, .int .i64 fl] 28 (0, 0)) := by rw [hw1]; exact heap_alloc_new w _
  have HB1 := Lib.hid hb1; have HX1 := Lib.hid hx1; have HA := Lib.hid (hA.later hb1)
  have hT : Tr.isT fl = true := hok.floor
  have hlen : n ≤ 20 := by have := hok.len; rw [show (⟨sers q n, fl⟩ : Tr.Stt (List Lab)).ser = sers q n from rfl, sers_length] at this; exact this
  have HIT : Hid (∀ U, Calls Try.prog 29 #[.int .i64 fl] U fun e w' => e = .returned (.bool true) ∧ w' = U) := Lib.hid (fun U => by have h := isTime_any fl U; rw [hT] at h; exact h)
  have HEA : Hid (∀ i, i < n → Tr.SerOk par fl (q i).ser) := Lib.hid (fun i hi => hok.each _ (List.mem_of_getElem? (sers_get hi)))
  have HRI : Hid (∀ i, i + 1 < n → La.less (La.keyB (q i).f (q i).ln) (La.keyB (q (i + 1)).f (q (i + 1)).ln) = true) := Lib.hid (fun i hi => by
    have h := List.pairwise_iff_getElem.1 hok.rise i (i + 1) (by rw [sers_length]; omega) (by rw [sers_length]; omega) (by omega)
    have e1 : (sers q n)[i]'(by rw [sers_length]; omega) = (q i).ser := by simp [sers]
    have e2 : (sers q n)[i + 1]'(by rw [sers_length]; omega) = (q (i + 1)).ser := by simp [sers]
    rw [e1, e2] at h
    rw [← par_less]
    exact h)
  have z0 : w1.cell? ⟨w.heap.size, 0, none⟩ = some (.slice A n c) := cell_of_row _ _ _ _ _ _ hx1
  clear hA hok hb1 hx1 hT
  have d20 : decide ((20 : Int) < (n : Int)) = false := decide_eq_false (by omega)
  go_enter Try.func14, Try.ntmps14
  go_wp2_with fail
  rw [← hw1]
  clear hw1
  refine (HIT.out _).mono ?_; rintro e w2 ⟨rfl, rfl⟩
  go_wp2_with fail
  clear z0
  go_loopw [3, 4, 18] (fun _ _ i wr => ∃ k : Nat, k ≤ n ∧ i = .int .i64 k ∧ Below w2.heap.size w2 wr) (fun _ _ i _ => n - (intOf i).toNat)
  case atStart => exact ⟨0, by omega, rfl, Below.refl _ _⟩
  case round =>
    obtain ⟨k, hkn, rfl, hb⟩ := hrel
    have HB := Lib.hid hb; clear hb
    have i0 : (0 : Int) ≤ (k : Int) := Int.natCast_nonneg _
    by_cases hlt : k < n
    · have i1 : (k : Int) < (n : Int) := by omega
      have d1 : decide ((k : Int) < (n : Int)) = true := decide_eq_true i1
      obtain ⟨ad, rfl, cc0, cc1⟩ := HA.out.row.at_ HB.out hlt
      have x0 := cc0 (by decide); have x1 := cc1 1 (by decide) (by decide); have x2 := cc1 2 (by decide) (by decide)
      have v0 : rx q k 0 = .slice (q k).la (q k).ln (q k).lc := rfl
      have v1 : rx q k 1 = .slice (q k).sa (q k).sn (q k).sc := rfl
      have v2 : rx q k 2 = .int .i64 (q k).last := rfl
      rw [v0] at x0; rw [v1] at x1; rw [v2] at x2
      obtain ⟨w8, hw8⟩ : ∃ w8, w8 = wr.alloc (.cells #[.slice (q k).la (q k).ln (q k).lc, .slice (q k).sa (q k).sn (q k).sc, .int .i64 (q k).last] 48) := ⟨_, rfl⟩
      have hb8 : Below wr.heap.size wr w8 := by rw [hw8]; exact (Below.refl _ _).alloc (Nat.le_refl _) _
      have HY8 : Hid (w8.heap[wr.heap.size]? = some (.cells #[.slice (q k).la (q k).ln (q k).lc, .slice (q k).sa (q k).sn (q k).sc, .int .i64 (q k).last] 48 (0, 0))) := Lib.hid (by rw [hw8]; exact heap_alloc_new wr _)
      have HB8 := Lib.hid (below_step HB.out hb8)
      have HVS := Lib.hid (fun U (hb : Below w8.heap.size w8 U) => validSeries_yes (q k) fl U ((HA.out.each k hlt).later (below_step HB8.out hb)) (HEA.out k hlt))
      obtain ⟨yb, hyb⟩ : ∃ yb, yb = wr.heap.size := ⟨_, rfl⟩
      rw [← hyb] at HY8
      clear cc0 cc1 v0 v1 v2 hb8
      go_wp2_with fail
      rw [← hw8, ← hyb]
      clear hw8 hyb x0 x1 x2
      refine plain_T (fun U => Below w8.heap.size w8 U) [] (by kernel_rfl) ?_
      have HD : Hid (Below w8.heap.size w8 w8.drew) := Lib.hid (Below.refl _ _).drew
      generalize w8.drew = wd at HD ⊢
      refine wpAnyT_pick (S := (fun U => Below w8.heap.size w8 U)) (by kernel_rfl) Only.panic Only.keepsIn (w := wd) HD.out [0, 1, 2] 19 _ _ (by kernel_rfl) ?_
      refine PickT.value (d := some 23) (.agg #[.slice (q k).la (q k).ln (q k).lc, .slice (q k).sa (q k).sn (q k).sc, .int .i64 (q k).last]) rfl rfl (by kernel_rfl) (fun U hU => (by have hy := heap_keep HY8.out hU; have h0 : U.cell? ⟨yb, 0, none⟩ = some (.slice (q k).la (q k).ln (q k).lc) := cell_of_row _ _ _ _ _ _ hy; have h1 : U.cell? ⟨yb, 1, none⟩ = some (.slice (q k).sa (q k).sn (q k).sc) := cell_of_row _ _ _ _ _ _ hy; have h2 : U.cell? ⟨yb, 2, none⟩ = some (.int .i64 (q k).last) := cell_of_row _ _ _ _ _ _ hy; go_simp)) ?_
      refine PickT.value (d := some 24) (.pointer (some ⟨w.heap.size, 1, none⟩)) rfl rfl (by kernel_rfl) (fun U hU => (by go_simp)) ?_
      refine PickT.value (d := some 25) (.int .i64 fl) rfl rfl (by kernel_rfl) (fun U hU => (by have h0 : U.cell? ⟨w.heap.size, 1, none⟩ = some (.int .i64 fl) := cell_of_row _ _ _ _ _ _ (heap_keep HX1.out (below_step HB8.out hU)); go_simp)) ?_
      simp only [PickT, Act.put, List.setIfInBounds_toArray, List.set_cons_zero, List.set_cons_succ]
      refine wpAnyT_one (i := 3) (by kernel_rfl) rfl (by kernel_rfl) ?_
      intro K hK
      unfold Oper.wp
      go_simp
      refine (HVS.out _ HD.out).mono ?_; rintro e w9 ⟨rfl, hb9⟩
      have HD9 := Lib.hid (below_step HD.out hb9)
      clear hb9
      refine hK _ _ (fun _ => HD9.out) ?_
      clear hK K
      by_cases hk0 : k = 0
      · have d3 : decide ((0 : Int) < (k : Int)) = false := decide_eq_false (by omega)
        have hk1 : ¬ 0 < k := by omega
        clear hk0
        refine wpAnyT_pick (S := (fun U => Below w8.heap.size w8 U)) (by kernel_rfl) Only.panic Only.keepsIn (w := w9) HD9.out [4, 5, 6, 7, 8, 9, 10, 11, 12, 13, 14, 15, 16, 17, 18, 19, 20, 21] 0 _ _ (by kernel_rfl) ?_
        refine PickT.value (d := some 27) (.bool false) rfl rfl (by kernel_rfl) (fun U hU => (by go_simp)) ?_
        refine PickT.value (d := some 28) (.bool false) rfl rfl (by kernel_rfl) (fun U hU => (by go_simp)) ?_
        refine PickT.value (d := some 29) (.int .i64 (k : Int)) rfl rfl (by kernel_rfl) (fun U hU => (by go_simp)) ?_
        refine PickT.value (d := some 30) (.bool false) rfl rfl (by kernel_rfl) (fun U hU => (by go_simp)) ?_
        refine PickT.value (d := some 31) (.bool false) rfl rfl (by kernel_rfl) (fun U hU => (by go_simp)) ?_
        refine PickT.skip (d := some 32) rfl rfl (by kernel_rfl) ?_
        refine PickT.skip (d := some 33) rfl rfl (by kernel_rfl) ?_
        refine PickT.skip (d := some 34) rfl rfl (by kernel_rfl) ?_
        refine PickT.skip (d := some 35) rfl rfl (by kernel_rfl) ?_
        refine PickT.skip (d := some 36) rfl rfl (by kernel_rfl) ?_
        refine PickT.skip (d := some 37) rfl rfl (by kernel_rfl) ?_
        refine PickT.skip (d := some 38) rfl rfl (by kernel_rfl) ?_
        refine PickT.skip (d := some 39) rfl rfl (by kernel_rfl) ?_
        refine PickT.skip (d := some 40) rfl rfl (by kernel_rfl) ?_
        refine PickT.skip (d := some 41) rfl rfl (by kernel_rfl) ?_
        refine PickT.skip (d := some 42) rfl rfl (by kernel_rfl) ?_
        refine PickT.value (d := some 43) (.bool false) rfl rfl (by kernel_rfl) (fun U hU => (by go_simp)) ?_
        refine PickT.value (d := some 44) (.bool false) rfl rfl (by kernel_rfl) (fun U hU => (by go_simp)) ?_
        simp only [PickT, Act.put, List.setIfInBounds_toArray, List.set_cons_zero, List.set_cons_succ]
        refine wpAnyT_done (by kernel_rfl) ?_ _
        refine only_mk ?_
        have HN : Hid (Below w2.heap.size w2 w9) := Lib.hid (below_step HB8.out HD9.out)
        go_wp2_with fail
        go_roundw
        case rel => exact ⟨k + 1, by omega, by go_num, HN.out⟩
        case measure => simp [intOf]; omega
      · obtain ⟨j, hj⟩ : ∃ j, k = j + 1 := ⟨k - 1, by omega⟩
        have hjn : j < n := by omega
        have d3 : decide ((0 : Int) < (k : Int)) = true := decide_eq_true (by omega)
        have hk1 : 0 < k := by omega
        have hkj : (k : Int) - 1 = (j : Int) := by omega
        have j1 : wrap64 ((k : Int) - 1) = (j : Int) := by rw [hkj]; exact IntWalk.wrap64_in _ (by omega)
        have j2 : IntKind.i64.wrap ((k : Int) - 1) = (j : Int) := by rw [hkj]; exact IntWalk.i64_in _ (by omega)
        have j3 : (0 : Int) ≤ (j : Int) := Int.natCast_nonneg _
        have j4 : (j : Int) < (n : Int) := Int.ofNat_lt.2 hjn
        have HLE : Hid (La.less (La.keyB (q j).f (q j).ln) (La.keyB (q k).f (q k).ln) = true) := Lib.hid (by rw [hj]; exact HRI.out j (by omega))
        have HPV : Hid (∀ U, Below w8.heap.size w8 U → U.cell? (ad.add (j * 3)) = some (.slice (q j).la (q j).ln (q j).lc)) := Lib.hid (fun U hU => by
          obtain ⟨a2, e2, cc2, -⟩ := HA.out.row.at_ (below_step HB8.out hU) hjn
          cases e2
          exact cc2 (by decide))
        have HLS := Lib.hid (fun U (hU : Below w8.heap.size w8 U) => Less_any (q j).la (q k).la (q j).ln (q k).ln (q j).lc (q k).lc (HA.out.each j hjn).lfew (HA.out.each k hlt).lfew (q j).f (q k).f (HA.out.each j hjn).lsize (HA.out.each k hlt).lsize U ((HA.out.each j hjn).later (below_step HB8.out hU)).labs ((HA.out.each k hlt).later (below_step HB8.out hU)).labs)
        clear hj hk0 hkj
        refine wpAnyT_pick (S := (fun U => Below w8.heap.size w8 U)) (by kernel_rfl) Only.panic Only.keepsIn (w := w9) HD9.out [4, 5, 6, 7, 8, 9, 10, 11, 12, 13, 14, 15, 16, 17] 4 _ _ (by kernel_rfl) ?_
        refine PickT.value (d := some 27) (.bool false) rfl rfl (by kernel_rfl) (fun U hU => (by go_simp)) ?_
        refine PickT.value (d := some 28) (.bool false) rfl rfl (by kernel_rfl) (fun U hU => (by go_simp)) ?_
        refine PickT.value (d := some 29) (.int .i64 (k : Int)) rfl rfl (by kernel_rfl) (fun U hU => (by go_simp)) ?_
        refine PickT.value (d := some 30) (.bool true) rfl rfl (by kernel_rfl) (fun U hU => (by go_simp)) ?_
        refine PickT.value (d := some 31) (.bool true) rfl rfl (by kernel_rfl) (fun U hU => (by go_simp)) ?_
        refine PickT.value (d := some 32) (.pointer (some ⟨w.heap.size, 0, none⟩)) rfl rfl (by kernel_rfl) (fun U hU => (by go_simp)) ?_
        refine PickT.value (d := some 33) (.slice (some ad) n c) rfl rfl (by kernel_rfl) (fun U hU => (by have h0 : U.cell? ⟨w.heap.size, 0, none⟩ = some (.slice (some ad) n c) := cell_of_row _ _ _ _ _ _ (heap_keep HX1.out (below_step HB8.out hU)); go_simp)) ?_
        refine PickT.value (d := some 34) (.int .i64 (k : Int)) rfl rfl (by kernel_rfl) (fun U hU => (by go_simp)) ?_
        refine PickT.value (d := some 35) (.int .i64 (j : Int)) rfl rfl (by kernel_rfl) (fun U hU => (by go_simp)) ?_
        refine PickT.value (d := some 36) (.pointer (some (ad.add (j * 3)))) rfl rfl (by kernel_rfl) (fun U hU => (by go_simp)) ?_
        refine PickT.value (d := some 37) (.pointer (some (ad.add (j * 3)))) rfl rfl (by kernel_rfl) (fun U hU => (by go_simp)) ?_
        refine PickT.value (d := some 38) (.slice (q j).la (q j).ln (q j).lc) rfl rfl (by kernel_rfl) (fun U hU => (by have h0 := HPV.out U hU; go_simp)) ?_
        refine PickT.value (d := some 39) (.pointer (some ⟨yb, 0, none⟩)) rfl rfl (by kernel_rfl) (fun U hU => (by go_simp)) ?_
        refine PickT.value (d := some 40) (.slice (q k).la (q k).ln (q k).lc) rfl rfl (by kernel_rfl) (fun U hU => (by have h0 : U.cell? ⟨yb, 0, none⟩ = some (.slice (q k).la (q k).ln (q k).lc) := cell_of_row _ _ _ _ _ _ (heap_keep HY8.out hU); go_simp)) ?_
        simp only [PickT, Act.put, List.setIfInBounds_toArray, List.set_cons_zero, List.set_cons_succ]
        refine wpAnyT_one (i := 18) (by kernel_rfl) rfl (by kernel_rfl) ?_
        intro K hK
        unfold Oper.wp
        go_simp
        refine (HLS.out _ HD9.out).mono ?_; rintro e w10 ⟨rfl, hb10⟩
        have HD10 := Lib.hid (below_step HD9.out hb10)
        rw [HLE.out]
        clear hb10
        refine hK _ _ (fun _ => HD10.out) ?_
        clear hK K
        refine wpAnyT_pick (S := (fun U => Below w8.heap.size w8 U)) (by kernel_rfl) Only.panic Only.keepsIn (w := w10) HD10.out [19, 20, 21] 0 _ _ (by kernel_rfl) ?_
        refine PickT.value (d := some 42) (.bool false) rfl rfl (by kernel_rfl) (fun U hU => (by go_simp)) ?_
        refine PickT.value (d := some 43) (.bool false) rfl rfl (by kernel_rfl) (fun U hU => (by go_simp)) ?_
        refine PickT.value (d := some 44) (.bool false) rfl rfl (by kernel_rfl) (fun U hU => (by go_simp)) ?_
        simp only [PickT, Act.put, List.setIfInBounds_toArray, List.set_cons_zero, List.set_cons_succ]
        refine wpAnyT_done (by kernel_rfl) ?_ _
        refine only_mk ?_
        have HN : Hid (Below w2.heap.size w2 w10) := Lib.hid (below_step HB8.out HD10.out)
        go_wp2_with fail
        go_roundw
        case rel => exact ⟨k + 1, by omega, by go_num, HN.out⟩
        case measure => simp [intOf]; omega
    · have d1 : decide ((k : Int) < (n : Int)) = false := decide_eq_false (by omega)
      go_wp2_with fail
      go_ret
      exact ⟨rfl, below_step HB1.out HB.out⟩
end Go.Proofs.Ytidfanmfibbiiaa
