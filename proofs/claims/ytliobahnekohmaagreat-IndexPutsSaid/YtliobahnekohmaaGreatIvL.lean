/-
  The document's labels, in order, each once: the walk.
-/
import Derived.Test.YtliobahnekohmaaGreatIvK
namespace Go.Proofs.YtliobahnekohmaaGreat
open Go.RowKit
set_option maxRecDepth 100000 in
set_option maxHeartbeats 32000000 in
theorem rlabels_any (A : Option Addr) (n c : Nat) (q : Nat → EAt) (w : World) (h : EGood w A n q) :
 Calls Tryz.prog 79 #[.slice A n c] w fun e w' => ∃ B d, e = .returned (.slice B (Ix.labAll (entL q n)).length d) ∧ LSl w' B d (Ix.labAll (entL q n)) ∧ Below w.heap.size w w' := by
 have HA := Lib.hid h
 have hn := h.few
 have heg : Tryz.prog.eqGuardType Tryz.prog.depth 37 = false := by kernel_rfl
 clear h
 go_enter Tryz.func79, Tryz.ntmps79
 go_wp2_with fail
 go_loopw [3, 4, 5, 6, 7, 8] (fun v i _ _ _ _ wr => ∃ (k : Nat) (B : Option Addr) (d : Nat), k ≤ n ∧ i = .int .i64 k ∧ LShort ((entL q k).flatMap (·.l)) (6 * k) ∧ v = .slice B (Ix.labAllW ((entL q k).flatMap (·.l))).length d ∧ LSl wr B d (Ix.labAllW ((entL q k).flatMap (·.l))) ∧ Below w.heap.size w wr) (fun _ i _ _ _ _ _ => n - (intOf i).toNat)
 case atStart => exact ⟨0, none, 0, Nat.zero_le _, rfl, ⟨Nat.le_refl _, fun y hy => by cases hy⟩, rfl, ⟨Nat.le_refl _, by decide, fun _ => ⟨rfl, rfl⟩, fun h => absurd h (Nat.lt_irrefl 0)⟩, Below.refl _ _⟩
 case round =>
  obtain ⟨k, B, d, hk, rfl, hsh, rfl, hts, hbl⟩ := hrel
  have HS := Lib.hid hsh; have HT := Lib.hid hts; have HB := Lib.hid hbl
  clear hsh hts hbl
  by_cases hkn : k < n
  · have d1 : decide ((k : Int) < (n : Int)) = true := decide_eq_true (Int.ofNat_lt.2 hkn)
    have i0 : (0 : Int) ≤ (k : Int) := Int.natCast_nonneg _
    have i1 : (k : Int) < (n : Int) := Int.ofNat_lt.2 hkn
    have HWS := Lib.hid (seen_succ q k)
    have HCE := Lib.hid (fun (U : World) (hU : Below w.heap.size w U) => HA.out.ents.cells hU hkn)
    have HRO := Lib.hid (HA.out.ents.each k hkn).row
    have HSM := Lib.hid (HA.out.short k hkn)
    have hlm := HA.out.labs k hkn
    generalize (entL q k).flatMap (·.l) = W0 at *
    generalize (q k).e.l = l at *
    have hk6 : 6 * k ≤ 120 := by have := HA.out.few; omega
    go_wp2_with fail
    go_loopw [3, 5, 6, 7, 8] (fun v i _ _ _ wr => ∃ (m : Nat) (B : Option Addr) (d : Nat), m ≤ l.length ∧ i = .int .i64 m ∧ LShort (W0 ++ l.take m) (6 * k + m) ∧ v = .slice B (Ix.labAllW (W0 ++ l.take m)).length d ∧ LSl wr B d (Ix.labAllW (W0 ++ l.take m)) ∧ Below w.heap.size w wr) (fun _ i _ _ _ _ => l.length - (intOf i).toNat)
    case atStart =>
     have e0 : W0 ++ l.take 0 = W0 := by rw [List.take_zero, List.append_nil]
     refine ⟨0, B, d, Nat.zero_le _, rfl, ?_, ?_, ?_, HB.out⟩
     · rw [e0]; exact HS.out
     · rw [e0]
     · rw [e0]; exact HT.out
    case round =>
     obtain ⟨m2, B2, d2, hm2, rfl, hsh, rfl, hts, hbl⟩ := hrel
     have HS2 := Lib.hid hsh; have HT2 := Lib.hid hts; have HB2 := Lib.hid hbl
     clear hsh hts hbl HS HT HB
     obtain ⟨ade, rfl, c0, -, -, -⟩ := HCE.out wr HB2.out
     by_cases hml2 : m2 < l.length
     · have d3 : decide ((m2 : Int) < (l.length : Int)) = true := decide_eq_true (Int.ofNat_lt.2 hml2)
       have k0 : (0 : Int) ≤ (m2 : Int) := Int.natCast_nonneg _
       have k1 : (m2 : Int) < (l.length : Int) := Int.ofNat_lt.2 hml2
       have HTK : Hid (W0 ++ l.take (m2 + 1) = (W0 ++ l.take m2) ++ [La.at_ l m2]) := Lib.hid (by rw [take_lab l hml2, List.append_assoc])
       obtain ⟨ad2, e2, g0, g1⟩ := HRO.out.at_ HB2.out hml2
       have hsm := HSM.out m2 hml2
       rw [e2] at c0
       generalize W0 ++ l.take m2 = W at *
       have HS3 := Lib.hid (HS2.out.snoc (x := La.at_ l m2) (by omega))
       obtain ⟨hK1, hK2⟩ := HS2.out.all (by omega)
       have HKZ := Lib.hid hK2
       generalize La.at_ l m2 = x at *
       obtain ⟨x1, x2⟩ := x
       simp only at g0 g1 hsm
       clear e2 hK2
       obtain ⟨w5, hw5⟩ : ∃ w5, w5 = wr.alloc (.cells #[.string x1, .string x2] 37) := ⟨_, rfl⟩
       have hb5 : Below wr.heap.size wr w5 := by rw [hw5]; exact (Below.refl _ _).alloc (Nat.le_refl _) _
       have hx5 : w5.heap[wr.heap.size]? = some (.cells #[.string x1, .string x2] 37 (0, 0)) := by rw [hw5]; exact heap_alloc_new wr _
       have HX5 := Lib.hid hx5; have HBW := Lib.hid (below_step HB2.out hb5); have HK5 := Lib.hid (HT2.out.later hb5)
       have HIN := Lib.hid (Ix.labIns_at (x1, x2) (Ix.labAllW W))
       obtain ⟨xb, hxb⟩ : ∃ xb, xb = wr.heap.size := ⟨_, rfl⟩
       rw [← hxb] at HX5
       clear hb5 hx5 HT2 HB2
       obtain ⟨d, hd⟩ : ∃ d, d = d2 := ⟨_, rfl⟩
       subst hd
       go_upto_region 9 with fail
       rw [← hw5, ← hxb]
       clear hw5 hxb c0 g0 g1
       have HWK : Hid (∃ K, K = Ix.labAllW W) := Lib.hid ⟨_, rfl⟩
       obtain ⟨K, hKK⟩ := HWK.out
       rw [← hKK] at HK5 HIN HKZ hK1 ⊢
       have HKK := Lib.hid hKK
       clear hKK HWK
       go_wp2_with fail
       go_loopw [7] (fun i wr => ∃ m : Nat, m ≤ K.length ∧ i = .int .i64 m ∧ (∀ j, j < m → Ix.labLess (La.at_ K j) (x1, x2) = true) ∧ Below w5.heap.size w5 wr) (fun i _ => K.length - (intOf i).toNat)
       case atStart => exact ⟨0, Nat.zero_le _, rfl, (fun j hj => absurd hj (Nat.not_lt_zero j)), Below.refl _ _⟩
       case round =>
        obtain ⟨m, hm, rfl, hall, hbl⟩ := hrel
        have HALL := Lib.hid hall; have HBL := Lib.hid hbl
        clear hall hbl
        have m0 : (0 : Int) ≤ (m : Int) := Int.natCast_nonneg _
        have HI3 := Lib.hid (HIN.out m hm)
        by_cases hml : m < K.length
        · have d4 : decide ((m : Int) < (K.length : Int)) = true := decide_eq_true (Int.ofNat_lt.2 hml)
          have m1 : (m : Int) < (K.length : Int) := Int.ofNat_lt.2 hml
          obtain ⟨ad, rfl, g00, g11⟩ := HK5.out.row.at_ HBL.out hml
          have g0 : wr.cell? (ad.add (m * 2)) = some (.string (La.at_ K m).1) := g00 (by decide)
          have g1 : wr.cell? ⟨(ad.add (m * 2)).block, (ad.add (m * 2)).off + 1, none⟩ = some (.string (La.at_ K m).2) := g11 1 (by decide) (by decide)
          have HNX : Hid (Ix.labLess (La.at_ K m) (x1, x2) = true → ∀ j, j < m + 1 → Ix.labLess (La.at_ K j) (x1, x2) = true) := Lib.hid (fun h j hj => by
           rcases Nat.lt_or_ge j m with h2 | h2
           · exact HALL.out j h2
           · rw [show j = m from by omega]; exact h)
          have hyz := HKZ.out m hml
          clear g00 g11
          generalize La.at_ K m = y at *
          obtain ⟨y1, y2⟩ := y
          simp only at g0 g1 hyz
          have HC1 := Lib.hid (fun U => rAhead_any y1 x1 (by unfold maxLen; omega) (by unfold maxLen; omega) U)
          have HC2 := Lib.hid (fun U => rAhead_any y2 x2 (by unfold maxLen; omega) (by unfold maxLen; omega) U)
          have hll : Ix.labLess (y1, y2) (x1, x2) = (La.less y1 x1 || (decide (y1 = x1) && La.less y2 x2)) := rfl
          rw [hll] at HI3 HNX
          have HX6 := Lib.hid (heap_keep HX5.out HBL.out)
          have HG0 := Lib.hid g0; have HG1 := Lib.hid g1
          clear hll
          go_upto_region 10 with fail
          clear g0 g1
          refine plain_T (fun U => Below wr.heap.size wr U) [] (by kernel_rfl) ?_
          have HD : Hid (Below wr.heap.size wr wr.drew) := Lib.hid (Below.refl _ _).drew
          generalize wr.drew = wd at HD ⊢
          refine wpAnyT_pick (S := (fun U => Below wr.heap.size wr U)) (by kernel_rfl) Only.panic Only.keepsIn (w := wd) HD.out [0, 1, 2, 3, 4, 5, 6, 7, 8, 9, 10, 11] 22 _ _ (by kernel_rfl) ?_
          refine PickT.value (d := some 33) (.int .i64 (m : Int)) rfl rfl (by kernel_rfl) (fun U hU => (by go_simp)) ?_
          refine PickT.value (d := some 34) (.slice (some ad) K.length d) rfl rfl (by kernel_rfl) (fun U hU => (by go_simp)) ?_
          refine PickT.value (d := some 35) (.int .i64 (K.length : Int)) rfl rfl (by kernel_rfl) (fun U hU => (by go_simp)) ?_
          refine PickT.value (d := some 36) (.bool true) rfl rfl (by kernel_rfl) (fun U hU => (by go_simp)) ?_
          refine PickT.value (d := some 37) (.bool true) rfl rfl (by kernel_rfl) (fun U hU => (by go_simp)) ?_
          refine PickT.value (d := some 38) (.slice (some ad) K.length d) rfl rfl (by kernel_rfl) (fun U hU => (by go_simp)) ?_
          refine PickT.value (d := some 39) (.int .i64 (m : Int)) rfl rfl (by kernel_rfl) (fun U hU => (by go_simp)) ?_
          refine PickT.value (d := some 40) (.pointer (some (ad.add (m * 2)))) rfl rfl (by kernel_rfl) (fun U hU => (by go_simp)) ?_
          refine PickT.value (d := some 41) (.pointer (some (ad.add (m * 2)))) rfl rfl (by kernel_rfl) (fun U hU => (by go_simp)) ?_
          refine PickT.value (d := some 42) (.string y1) rfl rfl (by kernel_rfl) (fun U hU => (by have h0 := keep_at2 HG0.out hU; go_simp)) ?_
          refine PickT.value (d := some 43) (.pointer (some ⟨xb, 0, none⟩)) rfl rfl (by kernel_rfl) (fun U hU => (by go_simp)) ?_
          refine PickT.value (d := some 44) (.string x1) rfl rfl (by kernel_rfl) (fun U hU => (by have h0 := cell_of_row _ _ 0 _ _ _ (heap_keep HX6.out hU); simp only [List.getElem?_toArray, List.getElem?_cons_zero] at h0; go_simp)) ?_
          simp only [PickT, Act.put, List.setIfInBounds_toArray, List.set_cons_zero, List.set_cons_succ]
          refine wpAnyT_one (i := 12) (by kernel_rfl) rfl (by kernel_rfl) ?_
          intro K0 hK
          unfold Oper.wp
          go_simp
          refine (HC1.out _).mono ?_; rintro e w9 ⟨rfl, hb9⟩
          have HB9 := Lib.hid (below_step HD.out hb9)
          clear hb9 HC1 HD
          refine hK _ _ (fun _ => HB9.out) ?_
          clear hK K0
          generalize La.less y1 x1 = l1 at *
          cases l1 with
          | true =>
           have HN := Lib.hid (HNX.out rfl)
           refine wpAnyT_pick (S := (fun U => Below wr.heap.size wr U)) (by kernel_rfl) Only.panic Only.keepsIn (w := w9) HB9.out [13, 14, 15, 16, 17, 18, 19, 20, 21, 22, 23, 24, 25, 26, 27, 28, 29, 30, 31, 32, 33] 0 _ _ (by kernel_rfl) ?_
           refine PickT.value (d := some 46) (.bool true) rfl rfl (by kernel_rfl) (fun U hU => (by go_simp)) ?_
           refine PickT.skip (d := some 47) rfl rfl (by kernel_rfl) ?_
           refine PickT.skip (d := some 48) rfl rfl (by kernel_rfl) ?_
           refine PickT.skip (d := some 49) rfl rfl (by kernel_rfl) ?_
           refine PickT.skip (d := some 50) rfl rfl (by kernel_rfl) ?_
           refine PickT.skip (d := some 51) rfl rfl (by kernel_rfl) ?_
           refine PickT.skip (d := some 52) rfl rfl (by kernel_rfl) ?_
           refine PickT.skip (d := some 53) rfl rfl (by kernel_rfl) ?_
           refine PickT.skip (d := some 54) rfl rfl (by kernel_rfl) ?_
           refine PickT.skip (d := some 55) rfl rfl (by kernel_rfl) ?_
           refine PickT.skip (d := some 56) rfl rfl (by kernel_rfl) ?_
           refine PickT.skip (d := some 57) rfl rfl (by kernel_rfl) ?_
           refine PickT.skip (d := some 58) rfl rfl (by kernel_rfl) ?_
           refine PickT.skip (d := some 59) rfl rfl (by kernel_rfl) ?_
           refine PickT.skip (d := some 60) rfl rfl (by kernel_rfl) ?_
           refine PickT.skip (d := some 61) rfl rfl (by kernel_rfl) ?_
           refine PickT.skip (d := some 62) rfl rfl (by kernel_rfl) ?_
           refine PickT.skip (d := some 63) rfl rfl (by kernel_rfl) ?_
           refine PickT.skip (d := some 64) rfl rfl (by kernel_rfl) ?_
           refine PickT.value (d := some 65) (.bool true) rfl rfl (by kernel_rfl) (fun U hU => (by go_simp)) ?_
           refine PickT.value (d := some 66) (.bool true) rfl rfl (by kernel_rfl) (fun U hU => (by go_simp)) ?_
           simp only [PickT, Act.put, List.setIfInBounds_toArray, List.set_cons_zero, List.set_cons_succ]
           refine wpAnyT_done (by kernel_rfl) ?_ _
           refine only_mk ?_
           have HB11 := Lib.hid (below_step HBL.out HB9.out)
           clear HI3 HNX HC2
           go_wp2_with fail
           go_roundw
           case rel => exact ⟨m + 1, hml, by go_num, HN.out, HB11.out⟩
           case measure => exact meas_lt0 hml
          | false =>
           by_cases h1 : y1 = x1
           · have b1 : (y1.toList == x1.toList) = true := by rw [h1]; exact beq_self_eq_true _
             rw [decide_eq_true h1] at HI3 HNX
             clear h1
             refine wpAnyT_pick (S := (fun U => Below wr.heap.size wr U)) (by kernel_rfl) Only.panic Only.keepsIn (w := w9) HB9.out [13, 14, 15, 16, 17, 18, 19, 20, 21, 22, 23, 24, 25, 26, 27, 28, 29] 4 _ _ (by kernel_rfl) ?_
             refine PickT.value (d := some 46) (.bool false) rfl rfl (by kernel_rfl) (fun U hU => (by go_simp)) ?_
             refine PickT.value (d := some 47) (.slice (some ad) K.length d) rfl rfl (by kernel_rfl) (fun U hU => (by go_simp)) ?_
             refine PickT.value (d := some 48) (.int .i64 (m : Int)) rfl rfl (by kernel_rfl) (fun U hU => (by go_simp)) ?_
             refine PickT.value (d := some 49) (.pointer (some (ad.add (m * 2)))) rfl rfl (by kernel_rfl) (fun U hU => (by go_simp)) ?_
             refine PickT.value (d := some 50) (.pointer (some (ad.add (m * 2)))) rfl rfl (by kernel_rfl) (fun U hU => (by go_simp)) ?_
             refine PickT.value (d := some 51) (.string y1) rfl rfl (by kernel_rfl) (fun U hU => (by have h0 := keep_at2 HG0.out hU; go_simp)) ?_
             refine PickT.value (d := some 52) (.pointer (some ⟨xb, 0, none⟩)) rfl rfl (by kernel_rfl) (fun U hU => (by go_simp)) ?_
             refine PickT.value (d := some 53) (.string x1) rfl rfl (by kernel_rfl) (fun U hU => (by have h0 := cell_of_row _ _ 0 _ _ _ (heap_keep HX6.out hU); simp only [List.getElem?_toArray, List.getElem?_cons_zero] at h0; go_simp)) ?_
             refine PickT.value (d := some 54) (.bool true) rfl rfl (by kernel_rfl) (fun U hU => (by go_simp)) ?_
             refine PickT.value (d := some 55) (.bool true) rfl rfl (by kernel_rfl) (fun U hU => (by go_simp)) ?_
             refine PickT.value (d := some 56) (.slice (some ad) K.length d) rfl rfl (by kernel_rfl) (fun U hU => (by go_simp)) ?_
             refine PickT.value (d := some 57) (.int .i64 (m : Int)) rfl rfl (by kernel_rfl) (fun U hU => (by go_simp)) ?_
             refine PickT.value (d := some 58) (.pointer (some (ad.add (m * 2)))) rfl rfl (by kernel_rfl) (fun U hU => (by go_simp)) ?_
             refine PickT.value (d := some 59) (.pointer (some ⟨(ad.add (m * 2)).block, (ad.add (m * 2)).off + 1, none⟩)) rfl rfl (by kernel_rfl) (fun U hU => (by go_simp)) ?_
             refine PickT.value (d := some 60) (.string y2) rfl rfl (by kernel_rfl) (fun U hU => (by have h0 := keep_at2 HG1.out hU; go_simp)) ?_
             refine PickT.value (d := some 61) (.pointer (some ⟨xb, 1, none⟩)) rfl rfl (by kernel_rfl) (fun U hU => (by go_simp)) ?_
             refine PickT.value (d := some 62) (.string x2) rfl rfl (by kernel_rfl) (fun U hU => (by have h0 := cell_of_row _ _ 1 _ _ _ (heap_keep HX6.out hU); simp only [List.getElem?_toArray, List.getElem?_cons_zero, List.getElem?_cons_succ] at h0; go_simp)) ?_
             simp only [PickT, Act.put, List.setIfInBounds_toArray, List.set_cons_zero, List.set_cons_succ]
             refine wpAnyT_one (i := 30) (by kernel_rfl) rfl (by kernel_rfl) ?_
             intro K0 hK
             unfold Oper.wp
             go_simp
             refine (HC2.out _).mono ?_; rintro e w10 ⟨rfl, hb10⟩
             have HB10 := Lib.hid (below_step HB9.out hb10)
             clear hb10 HC2 HB9 b1
             refine hK _ _ (fun _ => HB10.out) ?_
             clear hK K0
             generalize La.less y2 x2 = l2 at *
             cases l2 with
             | true =>
              have HN := Lib.hid (HNX.out rfl)
              refine wpAnyT_pick (S := (fun U => Below wr.heap.size wr U)) (by kernel_rfl) Only.panic Only.keepsIn (w := w10) HB10.out [31, 32, 33] 0 _ _ (by kernel_rfl) ?_
              refine PickT.value (d := some 64) (.bool true) rfl rfl (by kernel_rfl) (fun U hU => (by go_simp)) ?_
              refine PickT.value (d := some 65) (.bool true) rfl rfl (by kernel_rfl) (fun U hU => (by go_simp)) ?_
              refine PickT.value (d := some 66) (.bool true) rfl rfl (by kernel_rfl) (fun U hU => (by go_simp)) ?_
              simp only [PickT, Act.put, List.setIfInBounds_toArray, List.set_cons_zero, List.set_cons_succ]
              refine wpAnyT_done (by kernel_rfl) ?_ _
              refine only_mk ?_
              have HB11 := Lib.hid (below_step HBL.out HB10.out)
              clear HI3 HNX
              go_wp2_with fail
              go_roundw
              case rel => exact ⟨m + 1, hml, by go_num, HN.out, HB11.out⟩
              case measure => exact meas_lt0 hml
             | false =>
              refine wpAnyT_pick (S := (fun U => Below wr.heap.size wr U)) (by kernel_rfl) Only.panic Only.keepsIn (w := w10) HB10.out [31, 32, 33] 0 _ _ (by kernel_rfl) ?_
              refine PickT.value (d := some 64) (.bool false) rfl rfl (by kernel_rfl) (fun U hU => (by go_simp)) ?_
              refine PickT.value (d := some 65) (.bool false) rfl rfl (by kernel_rfl) (fun U hU => (by go_simp)) ?_
              refine PickT.value (d := some 66) (.bool false) rfl rfl (by kernel_rfl) (fun U hU => (by go_simp)) ?_
              simp only [PickT, Act.put, List.setIfInBounds_toArray, List.set_cons_zero, List.set_cons_succ]
              clear HNX
              refine wpAnyT_done (by kernel_rfl) ?_ _
              refine only_mk ?_
              have HB11 := Lib.hid (below_step HBL.out HB10.out)
              have HI := HI3.out HALL.out (Or.inr rfl)
              have hel := lab_same (y1, y2) (x1, x2)
              simp only at hel
              by_cases he : (y1, y2) = (x1, x2)
              · rw [if_pos ⟨hml, he⟩] at HI
                rw [decide_eq_true he] at hel
                clear he
                go_upto_region 12 with fail
                refine plain_T (fun U => Below (w10).heap.size w10 U) [] (by kernel_rfl) ?_
                have HD : Hid (Below (w10).heap.size w10 (w10).drew) := Lib.hid (Below.refl _ _).drew
                generalize (w10).drew = wd2 at HD ⊢
                refine wpAnyT_pick (S := (fun U => Below (w10).heap.size w10 U)) (by kernel_rfl) Only.panic Only.keepsIn (w := wd2) HD.out [0, 1, 2, 3, 4, 5, 6, 7, 8, 9, 10, 11] 0 _ _ (by kernel_rfl) ?_
                refine PickT.value (d := some 69) (.int .i64 (m : Int)) rfl rfl (by kernel_rfl) (fun U hU => (by go_simp)) ?_
                refine PickT.value (d := some 70) (.slice (some ad) K.length d) rfl rfl (by kernel_rfl) (fun U hU => (by go_simp)) ?_
                refine PickT.value (d := some 71) (.int .i64 (K.length : Int)) rfl rfl (by kernel_rfl) (fun U hU => (by go_simp)) ?_
                refine PickT.value (d := some 72) (.bool true) rfl rfl (by kernel_rfl) (fun U hU => (by go_simp)) ?_
                refine PickT.value (d := some 73) (.bool true) rfl rfl (by kernel_rfl) (fun U hU => (by go_simp)) ?_
                refine PickT.value (d := some 74) (.slice (some ad) K.length d) rfl rfl (by kernel_rfl) (fun U hU => (by go_simp)) ?_
                refine PickT.value (d := some 75) (.int .i64 (m : Int)) rfl rfl (by kernel_rfl) (fun U hU => (by go_simp)) ?_
                refine PickT.value (d := some 76) (.pointer (some (ad.add (m * 2)))) rfl rfl (by kernel_rfl) (fun U hU => (by go_simp)) ?_
                refine PickT.value (d := some 77) (.agg #[.string y1, .string y2]) rfl rfl (by kernel_rfl) (fun U hU => (by have h0 := keep_at2 HG0.out (below_step HB10.out hU); have h1 := keep_at2 HG1.out (below_step HB10.out hU); go_simp)) ?_
                refine PickT.value (d := some 78) (.agg #[.string x1, .string x2]) rfl rfl (by kernel_rfl) (fun U hU => (by have hy := heap_keep HX5.out (below_step HB11.out hU); have h0 := cell_of_row _ _ 0 _ _ _ hy; have h1 := cell_of_row _ _ 1 _ _ _ hy; simp only [List.getElem?_toArray, List.getElem?_cons_zero, List.getElem?_cons_succ] at h0 h1; go_simp)) ?_
                refine PickT.value (d := some 79) (.bool true) rfl rfl (by kernel_rfl) (fun U hU => (by go_simp)) ?_
                refine PickT.value (d := some 80) (.bool true) rfl rfl (by kernel_rfl) (fun U hU => (by go_simp)) ?_
                simp only [PickT, Act.put, List.setIfInBounds_toArray, List.set_cons_zero, List.set_cons_succ]
                refine wpAnyT_done (by kernel_rfl) ?_ _
                refine only_mk ?_
                have HB12 := Lib.hid (below_step HB11.out HD.out)
                clear HD
                clear hel
                have HI2 := Lib.hid HI
                have HB5 := Lib.hid (HBW.out.trans (HB12.out.mono HBW.out.size))
                have HL5 := Lib.hid (HK5.out.later HB12.out)
                clear HI
                go_wp2_with fail
                go_roundw
                case rel => exact ⟨m2 + 1, (some ad), d, hml2, rfl, by rw [HTK.out]; exact HS3.out, by rw [HTK.out, Ix.labAllW_snoc, ← HKK.out]; exact (by rw [HI2.out]), by rw [HTK.out, Ix.labAllW_snoc, ← HKK.out]; exact (by rw [HI2.out]; exact HL5.out), HB5.out⟩
                case measure => exact meas_lt0 hml2
              · rw [if_neg (fun h => he h.2)] at HI
                have HI2 := Lib.hid HI
                rw [decide_eq_false he] at hel
                clear HI he
                go_upto_region 12 with fail
                refine plain_T (fun U => Below (w10).heap.size w10 U) [] (by kernel_rfl) ?_
                have HD : Hid (Below (w10).heap.size w10 (w10).drew) := Lib.hid (Below.refl _ _).drew
                generalize (w10).drew = wd2 at HD ⊢
                refine wpAnyT_pick (S := (fun U => Below (w10).heap.size w10 U)) (by kernel_rfl) Only.panic Only.keepsIn (w := wd2) HD.out [0, 1, 2, 3, 4, 5, 6, 7, 8, 9, 10, 11] 0 _ _ (by kernel_rfl) ?_
                refine PickT.value (d := some 69) (.int .i64 (m : Int)) rfl rfl (by kernel_rfl) (fun U hU => (by go_simp)) ?_
                refine PickT.value (d := some 70) (.slice (some ad) K.length d) rfl rfl (by kernel_rfl) (fun U hU => (by go_simp)) ?_
                refine PickT.value (d := some 71) (.int .i64 (K.length : Int)) rfl rfl (by kernel_rfl) (fun U hU => (by go_simp)) ?_
                refine PickT.value (d := some 72) (.bool true) rfl rfl (by kernel_rfl) (fun U hU => (by go_simp)) ?_
                refine PickT.value (d := some 73) (.bool true) rfl rfl (by kernel_rfl) (fun U hU => (by go_simp)) ?_
                refine PickT.value (d := some 74) (.slice (some ad) K.length d) rfl rfl (by kernel_rfl) (fun U hU => (by go_simp)) ?_
                refine PickT.value (d := some 75) (.int .i64 (m : Int)) rfl rfl (by kernel_rfl) (fun U hU => (by go_simp)) ?_
                refine PickT.value (d := some 76) (.pointer (some (ad.add (m * 2)))) rfl rfl (by kernel_rfl) (fun U hU => (by go_simp)) ?_
                refine PickT.value (d := some 77) (.agg #[.string y1, .string y2]) rfl rfl (by kernel_rfl) (fun U hU => (by have h0 := keep_at2 HG0.out (below_step HB10.out hU); have h1 := keep_at2 HG1.out (below_step HB10.out hU); go_simp)) ?_
                refine PickT.value (d := some 78) (.agg #[.string x1, .string x2]) rfl rfl (by kernel_rfl) (fun U hU => (by have hy := heap_keep HX5.out (below_step HB11.out hU); have h0 := cell_of_row _ _ 0 _ _ _ hy; have h1 := cell_of_row _ _ 1 _ _ _ hy; simp only [List.getElem?_toArray, List.getElem?_cons_zero, List.getElem?_cons_succ] at h0 h1; go_simp)) ?_
                refine PickT.value (d := some 79) (.bool false) rfl rfl (by kernel_rfl) (fun U hU => (by go_simp)) ?_
                refine PickT.value (d := some 80) (.bool false) rfl rfl (by kernel_rfl) (fun U hU => (by go_simp)) ?_
                simp only [PickT, Act.put, List.setIfInBounds_toArray, List.set_cons_zero, List.set_cons_succ]
                refine wpAnyT_done (by kernel_rfl) ?_ _
                refine only_mk ?_
                have HB12 := Lib.hid (below_step HB11.out HD.out)
                clear HD
                clear hel
                have hkc : m ≤ d := Nat.le_trans hm HK5.out.le
                have s0 : (m : Int) ≤ (d : Int) := Int.ofNat_le.2 hkc
                have HR1 := Lib.hid (lrow_take (HK5.out.later HB12.out).row hm)
                have hsz : w5.heap.size ≤ (wd2).heap.size := HB12.out.size
                have hk1 : 0 + m ≤ 1000000 := by omega
                go_upto_region 15 with (at_builtin; go_must (refine wpList_append_row _ rfl _ _ 57 37 rfl 2 32 (.agg #[.string ByteArray.empty, .string ByteArray.empty]) Tryz.underlying57 infoL rfl (by decide) (by decide) w5.heap.size _ 0 [] rfl (World.ownsRow_nil _ _ _ _) ad m d (lkx K) (lkx_one K) rfl HR1.out hk1 hsz ?_); intro v7 w7 hown7 hg7; have HO7 := Lib.hid (show w7.ownsRow w5.heap.size 37 2 v7 m ((K.take m).flatMap labC) by rw [List.nil_append, lkx_cells K m hm, Nat.zero_add] at hown7; exact hown7); have HB7 := Lib.hid (HB12.out.grown hg7 hsz (fun r e => by cases e)); clear hown7 hg7)
                clear HR1 hsz hk1
                have hsz7 : w5.heap.size ≤ w7.heap.size := HB7.out.size
                have hk2 : m + 1 ≤ 1000000 := by omega
                have z0 := cell_of_row _ _ 0 _ _ _ (heap_keep HX5.out HB7.out); have z1 := cell_of_row _ _ 1 _ _ _ (heap_keep HX5.out HB7.out)
                simp only [List.getElem?_toArray, List.getElem?_cons_zero, List.getElem?_cons_succ] at z0 z1
                go_upto_region 16 with (at_builtin; go_must (refine wpList_append_row _ rfl _ _ 57 37 rfl 2 32 (.agg #[.string ByteArray.empty, .string ByteArray.empty]) Tryz.underlying57 infoL rfl (by decide) (by decide) w5.heap.size _ m ((K.take m).flatMap labC) rfl (row_far HO7.out ((Below.refl _ _).alloc (Nat.le_refl _) _)) ⟨w7.heap.size, 0, none⟩ 1 1 (lx2 (x1, x2)) (lx2_one (x1, x2)) rfl (lx2_row w7 (x1, x2) 37) hk2 (by simp; omega) ?_); intro v8 w8 hown8 hg8; have HO8 := Lib.hid hown8; have HB8 := Lib.hid ((HB7.out.alloc hsz7 _).grown hg8 (by simp; omega) (fun r e => (HO7.out.lt r e).1)); clear hown8 hg8)
                clear HO7 HB7 hsz7 hk2 z0 z1
                obtain ⟨A8, c8, hv8⟩ := own_formk HO8.out
                subst hv8
                have hd0 : (m : Int) ≤ (K.length : Int) := Int.ofNat_le.2 hm
                have hsz8 : w5.heap.size ≤ w8.heap.size := HB8.out.size
                have hk3 : m + 1 + (K.length - m) ≤ 1000000 := by omega
                by_cases hck : d = m
                · have hlk : K.length - m = 0 := by have := HK5.out.le; omega
                  have HRD : Hid (Row 2 (lkx (K.drop m)) w8 (some ad) (K.length - m)) := Lib.hid (fun h0 => absurd h0 (by omega))
                  have HCK := Lib.hid hck
                  clear hlk
                  go_wp2_with (at_builtin; go_must (refine wpList_append_row _ rfl _ _ 57 37 rfl 2 32 (.agg #[.string ByteArray.empty, .string ByteArray.empty]) Tryz.underlying57 infoL rfl (by decide) (by decide) w5.heap.size _ (m + 1) ((K.take m).flatMap labC ++ rcells 2 (lx2 (x1, x2)) 1) rfl HO8.out ad (K.length - m) 0 (lkx (K.drop m)) (lkx_one _) rfl HRD.out hk3 hsz8 ?_); intro v9 w9 hown9 hg9; have HO9 := Lib.hid (lab_ins_own hm hown9); have HB9 := Lib.hid (HB8.out.grown hg9 hsz8 (fun r e => (HO8.out.lt r e).1)); clear hown9 hg9)
                  obtain ⟨B9, d9, e9, ht9⟩ := lsl_own HO9.out
                  rw [← HI2.out] at e9 ht9
                  have HB5 := Lib.hid (HBW.out.trans (HB9.out.mono HBW.out.size))
                  go_roundw
                  case rel => exact ⟨m2 + 1, B9, d9, hml2, rfl, by rw [HTK.out]; exact HS3.out, by rw [HTK.out, Ix.labAllW_snoc, ← HKK.out]; exact e9, by rw [HTK.out, Ix.labAllW_snoc, ← HKK.out]; exact ht9, HB5.out⟩
                  case measure => exact meas_lt0 hml2
                · have HRD : Hid (Row 2 (lkx (K.drop m)) w8 (some (ad.add (m * 2))) (K.length - m)) := Lib.hid (lrow_drop (HK5.out.later HB8.out).row)
                  go_wp2_with (at_builtin; go_must (refine wpList_append_row _ rfl _ _ 57 37 rfl 2 32 (.agg #[.string ByteArray.empty, .string ByteArray.empty]) Tryz.underlying57 infoL rfl (by decide) (by decide) w5.heap.size _ (m + 1) ((K.take m).flatMap labC ++ rcells 2 (lx2 (x1, x2)) 1) rfl HO8.out (ad.add (m * 2)) (K.length - m) (d - m) (lkx (K.drop m)) (lkx_one _) rfl HRD.out hk3 hsz8 ?_); intro v9 w9 hown9 hg9; have HO9 := Lib.hid (lab_ins_own hm hown9); have HB9 := Lib.hid (HB8.out.grown hg9 hsz8 (fun r e => (HO8.out.lt r e).1)); clear hown9 hg9)
                  obtain ⟨B9, d9, e9, ht9⟩ := lsl_own HO9.out
                  rw [← HI2.out] at e9 ht9
                  have HB5 := Lib.hid (HBW.out.trans (HB9.out.mono HBW.out.size))
                  go_roundw
                  case rel => exact ⟨m2 + 1, B9, d9, hml2, rfl, by rw [HTK.out]; exact HS3.out, by rw [HTK.out, Ix.labAllW_snoc, ← HKK.out]; exact e9, by rw [HTK.out, Ix.labAllW_snoc, ← HKK.out]; exact ht9, HB5.out⟩
                  case measure => exact meas_lt0 hml2
           · have b1 := text_ne h1
             rw [decide_eq_false h1] at HI3 HNX
             clear h1
             refine wpAnyT_pick (S := (fun U => Below wr.heap.size wr U)) (by kernel_rfl) Only.panic Only.keepsIn (w := w9) HB9.out [13, 14, 15, 16, 17, 18, 19, 20, 21, 22, 23, 24, 25, 26, 27, 28, 29, 30, 31, 32, 33] 0 _ _ (by kernel_rfl) ?_
             refine PickT.value (d := some 46) (.bool false) rfl rfl (by kernel_rfl) (fun U hU => (by go_simp)) ?_
             refine PickT.value (d := some 47) (.slice (some ad) K.length d) rfl rfl (by kernel_rfl) (fun U hU => (by go_simp)) ?_
             refine PickT.value (d := some 48) (.int .i64 (m : Int)) rfl rfl (by kernel_rfl) (fun U hU => (by go_simp)) ?_
             refine PickT.value (d := some 49) (.pointer (some (ad.add (m * 2)))) rfl rfl (by kernel_rfl) (fun U hU => (by go_simp)) ?_
             refine PickT.value (d := some 50) (.pointer (some (ad.add (m * 2)))) rfl rfl (by kernel_rfl) (fun U hU => (by go_simp)) ?_
             refine PickT.value (d := some 51) (.string y1) rfl rfl (by kernel_rfl) (fun U hU => (by have h0 := keep_at2 HG0.out hU; go_simp)) ?_
             refine PickT.value (d := some 52) (.pointer (some ⟨xb, 0, none⟩)) rfl rfl (by kernel_rfl) (fun U hU => (by go_simp)) ?_
             refine PickT.value (d := some 53) (.string x1) rfl rfl (by kernel_rfl) (fun U hU => (by have h0 := cell_of_row _ _ 0 _ _ _ (heap_keep HX6.out hU); simp only [List.getElem?_toArray, List.getElem?_cons_zero] at h0; go_simp)) ?_
             refine PickT.value (d := some 54) (.bool false) rfl rfl (by kernel_rfl) (fun U hU => (by go_simp)) ?_
             refine PickT.value (d := some 55) (.bool false) rfl rfl (by kernel_rfl) (fun U hU => (by go_simp)) ?_
             refine PickT.skip (d := some 56) rfl rfl (by kernel_rfl) ?_
             refine PickT.skip (d := some 57) rfl rfl (by kernel_rfl) ?_
             refine PickT.skip (d := some 58) rfl rfl (by kernel_rfl) ?_
             refine PickT.skip (d := some 59) rfl rfl (by kernel_rfl) ?_
             refine PickT.skip (d := some 60) rfl rfl (by kernel_rfl) ?_
             refine PickT.skip (d := some 61) rfl rfl (by kernel_rfl) ?_
             refine PickT.skip (d := some 62) rfl rfl (by kernel_rfl) ?_
             refine PickT.skip (d := some 63) rfl rfl (by kernel_rfl) ?_
             refine PickT.value (d := some 64) (.bool false) rfl rfl (by kernel_rfl) (fun U hU => (by go_simp)) ?_
             refine PickT.value (d := some 65) (.bool false) rfl rfl (by kernel_rfl) (fun U hU => (by go_simp)) ?_
             refine PickT.value (d := some 66) (.bool false) rfl rfl (by kernel_rfl) (fun U hU => (by go_simp)) ?_
             simp only [PickT, Act.put, List.setIfInBounds_toArray, List.set_cons_zero, List.set_cons_succ]
             clear HNX HC2 b1
             refine wpAnyT_done (by kernel_rfl) ?_ _
             refine only_mk ?_
             have HB11 := Lib.hid (below_step HBL.out HB9.out)
             have HI := HI3.out HALL.out (Or.inr rfl)
             have hel := lab_same (y1, y2) (x1, x2)
             simp only at hel
             by_cases he : (y1, y2) = (x1, x2)
             · rw [if_pos ⟨hml, he⟩] at HI
               rw [decide_eq_true he] at hel
               clear he
               go_upto_region 12 with fail
               refine plain_T (fun U => Below (w9).heap.size w9 U) [] (by kernel_rfl) ?_
               have HD : Hid (Below (w9).heap.size w9 (w9).drew) := Lib.hid (Below.refl _ _).drew
               generalize (w9).drew = wd2 at HD ⊢
               refine wpAnyT_pick (S := (fun U => Below (w9).heap.size w9 U)) (by kernel_rfl) Only.panic Only.keepsIn (w := wd2) HD.out [0, 1, 2, 3, 4, 5, 6, 7, 8, 9, 10, 11] 0 _ _ (by kernel_rfl) ?_
               refine PickT.value (d := some 69) (.int .i64 (m : Int)) rfl rfl (by kernel_rfl) (fun U hU => (by go_simp)) ?_
               refine PickT.value (d := some 70) (.slice (some ad) K.length d) rfl rfl (by kernel_rfl) (fun U hU => (by go_simp)) ?_
               refine PickT.value (d := some 71) (.int .i64 (K.length : Int)) rfl rfl (by kernel_rfl) (fun U hU => (by go_simp)) ?_
               refine PickT.value (d := some 72) (.bool true) rfl rfl (by kernel_rfl) (fun U hU => (by go_simp)) ?_
               refine PickT.value (d := some 73) (.bool true) rfl rfl (by kernel_rfl) (fun U hU => (by go_simp)) ?_
               refine PickT.value (d := some 74) (.slice (some ad) K.length d) rfl rfl (by kernel_rfl) (fun U hU => (by go_simp)) ?_
               refine PickT.value (d := some 75) (.int .i64 (m : Int)) rfl rfl (by kernel_rfl) (fun U hU => (by go_simp)) ?_
               refine PickT.value (d := some 76) (.pointer (some (ad.add (m * 2)))) rfl rfl (by kernel_rfl) (fun U hU => (by go_simp)) ?_
               refine PickT.value (d := some 77) (.agg #[.string y1, .string y2]) rfl rfl (by kernel_rfl) (fun U hU => (by have h0 := keep_at2 HG0.out (below_step HB9.out hU); have h1 := keep_at2 HG1.out (below_step HB9.out hU); go_simp)) ?_
               refine PickT.value (d := some 78) (.agg #[.string x1, .string x2]) rfl rfl (by kernel_rfl) (fun U hU => (by have hy := heap_keep HX5.out (below_step HB11.out hU); have h0 := cell_of_row _ _ 0 _ _ _ hy; have h1 := cell_of_row _ _ 1 _ _ _ hy; simp only [List.getElem?_toArray, List.getElem?_cons_zero, List.getElem?_cons_succ] at h0 h1; go_simp)) ?_
               refine PickT.value (d := some 79) (.bool true) rfl rfl (by kernel_rfl) (fun U hU => (by go_simp)) ?_
               refine PickT.value (d := some 80) (.bool true) rfl rfl (by kernel_rfl) (fun U hU => (by go_simp)) ?_
               simp only [PickT, Act.put, List.setIfInBounds_toArray, List.set_cons_zero, List.set_cons_succ]
               refine wpAnyT_done (by kernel_rfl) ?_ _
               refine only_mk ?_
               have HB12 := Lib.hid (below_step HB11.out HD.out)
               clear HD
               clear hel
               have HI2 := Lib.hid HI
               have HB5 := Lib.hid (HBW.out.trans (HB12.out.mono HBW.out.size))
               have HL5 := Lib.hid (HK5.out.later HB12.out)
               clear HI
               go_wp2_with fail
               go_roundw
               case rel => exact ⟨m2 + 1, (some ad), d, hml2, rfl, by rw [HTK.out]; exact HS3.out, by rw [HTK.out, Ix.labAllW_snoc, ← HKK.out]; exact (by rw [HI2.out]), by rw [HTK.out, Ix.labAllW_snoc, ← HKK.out]; exact (by rw [HI2.out]; exact HL5.out), HB5.out⟩
               case measure => exact meas_lt0 hml2
             · rw [if_neg (fun h => he h.2)] at HI
               have HI2 := Lib.hid HI
               rw [decide_eq_false he] at hel
               clear HI he
               go_upto_region 12 with fail
               refine plain_T (fun U => Below (w9).heap.size w9 U) [] (by kernel_rfl) ?_
               have HD : Hid (Below (w9).heap.size w9 (w9).drew) := Lib.hid (Below.refl _ _).drew
               generalize (w9).drew = wd2 at HD ⊢
               refine wpAnyT_pick (S := (fun U => Below (w9).heap.size w9 U)) (by kernel_rfl) Only.panic Only.keepsIn (w := wd2) HD.out [0, 1, 2, 3, 4, 5, 6, 7, 8, 9, 10, 11] 0 _ _ (by kernel_rfl) ?_
               refine PickT.value (d := some 69) (.int .i64 (m : Int)) rfl rfl (by kernel_rfl) (fun U hU => (by go_simp)) ?_
               refine PickT.value (d := some 70) (.slice (some ad) K.length d) rfl rfl (by kernel_rfl) (fun U hU => (by go_simp)) ?_
               refine PickT.value (d := some 71) (.int .i64 (K.length : Int)) rfl rfl (by kernel_rfl) (fun U hU => (by go_simp)) ?_
               refine PickT.value (d := some 72) (.bool true) rfl rfl (by kernel_rfl) (fun U hU => (by go_simp)) ?_
               refine PickT.value (d := some 73) (.bool true) rfl rfl (by kernel_rfl) (fun U hU => (by go_simp)) ?_
               refine PickT.value (d := some 74) (.slice (some ad) K.length d) rfl rfl (by kernel_rfl) (fun U hU => (by go_simp)) ?_
               refine PickT.value (d := some 75) (.int .i64 (m : Int)) rfl rfl (by kernel_rfl) (fun U hU => (by go_simp)) ?_
               refine PickT.value (d := some 76) (.pointer (some (ad.add (m * 2)))) rfl rfl (by kernel_rfl) (fun U hU => (by go_simp)) ?_
               refine PickT.value (d := some 77) (.agg #[.string y1, .string y2]) rfl rfl (by kernel_rfl) (fun U hU => (by have h0 := keep_at2 HG0.out (below_step HB9.out hU); have h1 := keep_at2 HG1.out (below_step HB9.out hU); go_simp)) ?_
               refine PickT.value (d := some 78) (.agg #[.string x1, .string x2]) rfl rfl (by kernel_rfl) (fun U hU => (by have hy := heap_keep HX5.out (below_step HB11.out hU); have h0 := cell_of_row _ _ 0 _ _ _ hy; have h1 := cell_of_row _ _ 1 _ _ _ hy; simp only [List.getElem?_toArray, List.getElem?_cons_zero, List.getElem?_cons_succ] at h0 h1; go_simp)) ?_
               refine PickT.value (d := some 79) (.bool false) rfl rfl (by kernel_rfl) (fun U hU => (by go_simp)) ?_
               refine PickT.value (d := some 80) (.bool false) rfl rfl (by kernel_rfl) (fun U hU => (by go_simp)) ?_
               simp only [PickT, Act.put, List.setIfInBounds_toArray, List.set_cons_zero, List.set_cons_succ]
               refine wpAnyT_done (by kernel_rfl) ?_ _
               refine only_mk ?_
               have HB12 := Lib.hid (below_step HB11.out HD.out)
               clear HD
               clear hel
               have hkc : m ≤ d := Nat.le_trans hm HK5.out.le
               have s0 : (m : Int) ≤ (d : Int) := Int.ofNat_le.2 hkc
               have HR1 := Lib.hid (lrow_take (HK5.out.later HB12.out).row hm)
               have hsz : w5.heap.size ≤ (wd2).heap.size := HB12.out.size
               have hk1 : 0 + m ≤ 1000000 := by omega
               go_upto_region 15 with (at_builtin; go_must (refine wpList_append_row _ rfl _ _ 57 37 rfl 2 32 (.agg #[.string ByteArray.empty, .string ByteArray.empty]) Tryz.underlying57 infoL rfl (by decide) (by decide) w5.heap.size _ 0 [] rfl (World.ownsRow_nil _ _ _ _) ad m d (lkx K) (lkx_one K) rfl HR1.out hk1 hsz ?_); intro v7 w7 hown7 hg7; have HO7 := Lib.hid (show w7.ownsRow w5.heap.size 37 2 v7 m ((K.take m).flatMap labC) by rw [List.nil_append, lkx_cells K m hm, Nat.zero_add] at hown7; exact hown7); have HB7 := Lib.hid (HB12.out.grown hg7 hsz (fun r e => by cases e)); clear hown7 hg7)
               clear HR1 hsz hk1
               have hsz7 : w5.heap.size ≤ w7.heap.size := HB7.out.size
               have hk2 : m + 1 ≤ 1000000 := by omega
               have z0 := cell_of_row _ _ 0 _ _ _ (heap_keep HX5.out HB7.out); have z1 := cell_of_row _ _ 1 _ _ _ (heap_keep HX5.out HB7.out)
               simp only [List.getElem?_toArray, List.getElem?_cons_zero, List.getElem?_cons_succ] at z0 z1
               go_upto_region 16 with (at_builtin; go_must (refine wpList_append_row _ rfl _ _ 57 37 rfl 2 32 (.agg #[.string ByteArray.empty, .string ByteArray.empty]) Tryz.underlying57 infoL rfl (by decide) (by decide) w5.heap.size _ m ((K.take m).flatMap labC) rfl (row_far HO7.out ((Below.refl _ _).alloc (Nat.le_refl _) _)) ⟨w7.heap.size, 0, none⟩ 1 1 (lx2 (x1, x2)) (lx2_one (x1, x2)) rfl (lx2_row w7 (x1, x2) 37) hk2 (by simp; omega) ?_); intro v8 w8 hown8 hg8; have HO8 := Lib.hid hown8; have HB8 := Lib.hid ((HB7.out.alloc hsz7 _).grown hg8 (by simp; omega) (fun r e => (HO7.out.lt r e).1)); clear hown8 hg8)
               clear HO7 HB7 hsz7 hk2 z0 z1
               obtain ⟨A8, c8, hv8⟩ := own_formk HO8.out
               subst hv8
               have hd0 : (m : Int) ≤ (K.length : Int) := Int.ofNat_le.2 hm
               have hsz8 : w5.heap.size ≤ w8.heap.size := HB8.out.size
               have hk3 : m + 1 + (K.length - m) ≤ 1000000 := by omega
               by_cases hck : d = m
               · have hlk : K.length - m = 0 := by have := HK5.out.le; omega
                 have HRD : Hid (Row 2 (lkx (K.drop m)) w8 (some ad) (K.length - m)) := Lib.hid (fun h0 => absurd h0 (by omega))
                 have HCK := Lib.hid hck
                 clear hlk
                 go_wp2_with (at_builtin; go_must (refine wpList_append_row _ rfl _ _ 57 37 rfl 2 32 (.agg #[.string ByteArray.empty, .string ByteArray.empty]) Tryz.underlying57 infoL rfl (by decide) (by decide) w5.heap.size _ (m + 1) ((K.take m).flatMap labC ++ rcells 2 (lx2 (x1, x2)) 1) rfl HO8.out ad (K.length - m) 0 (lkx (K.drop m)) (lkx_one _) rfl HRD.out hk3 hsz8 ?_); intro v9 w9 hown9 hg9; have HO9 := Lib.hid (lab_ins_own hm hown9); have HB9 := Lib.hid (HB8.out.grown hg9 hsz8 (fun r e => (HO8.out.lt r e).1)); clear hown9 hg9)
                 obtain ⟨B9, d9, e9, ht9⟩ := lsl_own HO9.out
                 rw [← HI2.out] at e9 ht9
                 have HB5 := Lib.hid (HBW.out.trans (HB9.out.mono HBW.out.size))
                 go_roundw
                 case rel => exact ⟨m2 + 1, B9, d9, hml2, rfl, by rw [HTK.out]; exact HS3.out, by rw [HTK.out, Ix.labAllW_snoc, ← HKK.out]; exact e9, by rw [HTK.out, Ix.labAllW_snoc, ← HKK.out]; exact ht9, HB5.out⟩
                 case measure => exact meas_lt0 hml2
               · have HRD : Hid (Row 2 (lkx (K.drop m)) w8 (some (ad.add (m * 2))) (K.length - m)) := Lib.hid (lrow_drop (HK5.out.later HB8.out).row)
                 go_wp2_with (at_builtin; go_must (refine wpList_append_row _ rfl _ _ 57 37 rfl 2 32 (.agg #[.string ByteArray.empty, .string ByteArray.empty]) Tryz.underlying57 infoL rfl (by decide) (by decide) w5.heap.size _ (m + 1) ((K.take m).flatMap labC ++ rcells 2 (lx2 (x1, x2)) 1) rfl HO8.out (ad.add (m * 2)) (K.length - m) (d - m) (lkx (K.drop m)) (lkx_one _) rfl HRD.out hk3 hsz8 ?_); intro v9 w9 hown9 hg9; have HO9 := Lib.hid (lab_ins_own hm hown9); have HB9 := Lib.hid (HB8.out.grown hg9 hsz8 (fun r e => (HO8.out.lt r e).1)); clear hown9 hg9)
                 obtain ⟨B9, d9, e9, ht9⟩ := lsl_own HO9.out
                 rw [← HI2.out] at e9 ht9
                 have HB5 := Lib.hid (HBW.out.trans (HB9.out.mono HBW.out.size))
                 go_roundw
                 case rel => exact ⟨m2 + 1, B9, d9, hml2, rfl, by rw [HTK.out]; exact HS3.out, by rw [HTK.out, Ix.labAllW_snoc, ← HKK.out]; exact e9, by rw [HTK.out, Ix.labAllW_snoc, ← HKK.out]; exact ht9, HB5.out⟩
                 case measure => exact meas_lt0 hml2
        · have hme : m = K.length := Nat.le_antisymm hm (Nat.le_of_not_lt hml)
          have d4 : decide ((m : Int) < (K.length : Int)) = false := decide_eq_false (fun h => hml (Int.ofNat_lt.1 h))
          have d4n : decide (m < K.length) = false := decide_eq_false hml
          have HI := HI3.out HALL.out (Or.inl hme)
          rw [if_neg (fun h => hml h.1)] at HI
          have HI2 := Lib.hid HI
          have HME := Lib.hid hme
          clear HI hme HI3
          go_upto_region 10 with fail
          refine plain_T (fun U => Below wr.heap.size wr U) [] (by kernel_rfl) ?_
          have HD : Hid (Below wr.heap.size wr wr.drew) := Lib.hid (Below.refl _ _).drew
          generalize wr.drew = wd at HD ⊢
          refine wpAnyT_pick (S := (fun U => Below wr.heap.size wr U)) (by kernel_rfl) Only.panic Only.keepsIn (w := wd) HD.out [0, 1, 2, 3, 4, 5, 6, 7, 8, 9, 10, 11, 12, 13, 14, 15, 16, 17, 18, 19, 20, 21, 22, 23, 24, 25, 26, 27, 28, 29, 30, 31, 32, 33] 0 _ _ (by kernel_rfl) ?_
          refine PickT.value (d := some 33) (.int .i64 (m : Int)) rfl rfl (by kernel_rfl) (fun U hU => (by go_simp)) ?_
          refine PickT.value (d := some 34) (.slice B2 K.length d) rfl rfl (by kernel_rfl) (fun U hU => (by go_simp)) ?_
          refine PickT.value (d := some 35) (.int .i64 (K.length : Int)) rfl rfl (by kernel_rfl) (fun U hU => (by go_simp)) ?_
          refine PickT.value (d := some 36) (.bool false) rfl rfl (by kernel_rfl) (fun U hU => (by go_simp)) ?_
          refine PickT.value (d := some 37) (.bool false) rfl rfl (by kernel_rfl) (fun U hU => (by go_simp)) ?_
          refine PickT.skip (d := some 38) rfl rfl (by kernel_rfl) ?_
          refine PickT.skip (d := some 39) rfl rfl (by kernel_rfl) ?_
          refine PickT.skip (d := some 40) rfl rfl (by kernel_rfl) ?_
          refine PickT.skip (d := some 41) rfl rfl (by kernel_rfl) ?_
          refine PickT.skip (d := some 42) rfl rfl (by kernel_rfl) ?_
          refine PickT.skip (d := some 43) rfl rfl (by kernel_rfl) ?_
          refine PickT.skip (d := some 44) rfl rfl (by kernel_rfl) ?_
          refine PickT.skip (d := some 45) rfl rfl (by kernel_rfl) ?_
          refine PickT.skip (d := some 46) rfl rfl (by kernel_rfl) ?_
          refine PickT.skip (d := some 47) rfl rfl (by kernel_rfl) ?_
          refine PickT.skip (d := some 48) rfl rfl (by kernel_rfl) ?_
          refine PickT.skip (d := some 49) rfl rfl (by kernel_rfl) ?_
          refine PickT.skip (d := some 50) rfl rfl (by kernel_rfl) ?_
          refine PickT.skip (d := some 51) rfl rfl (by kernel_rfl) ?_
          refine PickT.skip (d := some 52) rfl rfl (by kernel_rfl) ?_
          refine PickT.skip (d := some 53) rfl rfl (by kernel_rfl) ?_
          refine PickT.skip (d := some 54) rfl rfl (by kernel_rfl) ?_
          refine PickT.skip (d := some 55) rfl rfl (by kernel_rfl) ?_
          refine PickT.skip (d := some 56) rfl rfl (by kernel_rfl) ?_
          refine PickT.skip (d := some 57) rfl rfl (by kernel_rfl) ?_
          refine PickT.skip (d := some 58) rfl rfl (by kernel_rfl) ?_
          refine PickT.skip (d := some 59) rfl rfl (by kernel_rfl) ?_
          refine PickT.skip (d := some 60) rfl rfl (by kernel_rfl) ?_
          refine PickT.skip (d := some 61) rfl rfl (by kernel_rfl) ?_
          refine PickT.skip (d := some 62) rfl rfl (by kernel_rfl) ?_
          refine PickT.skip (d := some 63) rfl rfl (by kernel_rfl) ?_
          refine PickT.skip (d := some 64) rfl rfl (by kernel_rfl) ?_
          refine PickT.skip (d := some 65) rfl rfl (by kernel_rfl) ?_
          refine PickT.value (d := some 66) (.bool false) rfl rfl (by kernel_rfl) (fun U hU => (by go_simp)) ?_
          simp only [PickT, Act.put, List.setIfInBounds_toArray, List.set_cons_zero, List.set_cons_succ]
          refine wpAnyT_done (by kernel_rfl) ?_ _
          refine only_mk ?_
          have HB11 := Lib.hid (below_step HBL.out HD.out)
          clear HD
          go_upto_region 12 with fail
          refine plain_T (fun U => Below wd.heap.size wd U) [] (by kernel_rfl) ?_
          have HD : Hid (Below wd.heap.size wd wd.drew) := Lib.hid (Below.refl _ _).drew
          generalize wd.drew = wd2 at HD ⊢
          refine wpAnyT_pick (S := (fun U => Below wd.heap.size wd U)) (by kernel_rfl) Only.panic Only.keepsIn (w := wd2) HD.out [0, 1, 2, 3, 4, 5, 6, 7, 8, 9, 10, 11] 0 _ _ (by kernel_rfl) ?_
          refine PickT.value (d := some 69) (.int .i64 (m : Int)) rfl rfl (by kernel_rfl) (fun U hU => (by go_simp)) ?_
          refine PickT.value (d := some 70) (.slice B2 K.length d) rfl rfl (by kernel_rfl) (fun U hU => (by go_simp)) ?_
          refine PickT.value (d := some 71) (.int .i64 (K.length : Int)) rfl rfl (by kernel_rfl) (fun U hU => (by go_simp)) ?_
          refine PickT.value (d := some 72) (.bool false) rfl rfl (by kernel_rfl) (fun U hU => (by go_simp)) ?_
          refine PickT.value (d := some 73) (.bool false) rfl rfl (by kernel_rfl) (fun U hU => (by go_simp)) ?_
          refine PickT.skip (d := some 74) rfl rfl (by kernel_rfl) ?_
          refine PickT.skip (d := some 75) rfl rfl (by kernel_rfl) ?_
          refine PickT.skip (d := some 76) rfl rfl (by kernel_rfl) ?_
          refine PickT.skip (d := some 77) rfl rfl (by kernel_rfl) ?_
          refine PickT.skip (d := some 78) rfl rfl (by kernel_rfl) ?_
          refine PickT.skip (d := some 79) rfl rfl (by kernel_rfl) ?_
          refine PickT.value (d := some 80) (.bool false) rfl rfl (by kernel_rfl) (fun U hU => (by go_simp)) ?_
          simp only [PickT, Act.put, List.setIfInBounds_toArray, List.set_cons_zero, List.set_cons_succ]
          refine wpAnyT_done (by kernel_rfl) ?_ _
          refine only_mk ?_
          have HB12 := Lib.hid (below_step HB11.out HD.out)
          clear HD
          cases B2 with
          | some ad =>
           have hkc : m ≤ d := Nat.le_trans hm HK5.out.le
           have s0 : (m : Int) ≤ (d : Int) := Int.ofNat_le.2 hkc
           have HR1 := Lib.hid (lrow_take (HK5.out.later HB12.out).row hm)
           have hsz : w5.heap.size ≤ (wd2).heap.size := HB12.out.size
           have hk1 : 0 + m ≤ 1000000 := by omega
           go_upto_region 15 with (at_builtin; go_must (refine wpList_append_row _ rfl _ _ 57 37 rfl 2 32 (.agg #[.string ByteArray.empty, .string ByteArray.empty]) Tryz.underlying57 infoL rfl (by decide) (by decide) w5.heap.size _ 0 [] rfl (World.ownsRow_nil _ _ _ _) ad m d (lkx K) (lkx_one K) rfl HR1.out hk1 hsz ?_); intro v7 w7 hown7 hg7; have HO7 := Lib.hid (show w7.ownsRow w5.heap.size 37 2 v7 m ((K.take m).flatMap labC) by rw [List.nil_append, lkx_cells K m hm, Nat.zero_add] at hown7; exact hown7); have HB7 := Lib.hid (HB12.out.grown hg7 hsz (fun r e => by cases e)); clear hown7 hg7)
           clear HR1 hsz hk1
           have hsz7 : w5.heap.size ≤ w7.heap.size := HB7.out.size
           have hk2 : m + 1 ≤ 1000000 := by omega
           have z0 := cell_of_row _ _ 0 _ _ _ (heap_keep HX5.out HB7.out); have z1 := cell_of_row _ _ 1 _ _ _ (heap_keep HX5.out HB7.out)
           simp only [List.getElem?_toArray, List.getElem?_cons_zero, List.getElem?_cons_succ] at z0 z1
           go_upto_region 16 with (at_builtin; go_must (refine wpList_append_row _ rfl _ _ 57 37 rfl 2 32 (.agg #[.string ByteArray.empty, .string ByteArray.empty]) Tryz.underlying57 infoL rfl (by decide) (by decide) w5.heap.size _ m ((K.take m).flatMap labC) rfl (row_far HO7.out ((Below.refl _ _).alloc (Nat.le_refl _) _)) ⟨w7.heap.size, 0, none⟩ 1 1 (lx2 (x1, x2)) (lx2_one (x1, x2)) rfl (lx2_row w7 (x1, x2) 37) hk2 (by simp; omega) ?_); intro v8 w8 hown8 hg8; have HO8 := Lib.hid hown8; have HB8 := Lib.hid ((HB7.out.alloc hsz7 _).grown hg8 (by simp; omega) (fun r e => (HO7.out.lt r e).1)); clear hown8 hg8)
           clear HO7 HB7 hsz7 hk2 z0 z1
           obtain ⟨A8, c8, hv8⟩ := own_formk HO8.out
           subst hv8
           have hd0 : (m : Int) ≤ (K.length : Int) := Int.ofNat_le.2 hm
           have hsz8 : w5.heap.size ≤ w8.heap.size := HB8.out.size
           have hk3 : m + 1 + (K.length - m) ≤ 1000000 := by omega
           by_cases hck : d = m
           · have hlk : K.length - m = 0 := by have := HK5.out.le; omega
             have HRD : Hid (Row 2 (lkx (K.drop m)) w8 (some ad) (K.length - m)) := Lib.hid (fun h0 => absurd h0 (by omega))
             have HCK := Lib.hid hck
             clear hlk
             go_wp2_with (at_builtin; go_must (refine wpList_append_row _ rfl _ _ 57 37 rfl 2 32 (.agg #[.string ByteArray.empty, .string ByteArray.empty]) Tryz.underlying57 infoL rfl (by decide) (by decide) w5.heap.size _ (m + 1) ((K.take m).flatMap labC ++ rcells 2 (lx2 (x1, x2)) 1) rfl HO8.out ad (K.length - m) 0 (lkx (K.drop m)) (lkx_one _) rfl HRD.out hk3 hsz8 ?_); intro v9 w9 hown9 hg9; have HO9 := Lib.hid (lab_ins_own hm hown9); have HB9 := Lib.hid (HB8.out.grown hg9 hsz8 (fun r e => (HO8.out.lt r e).1)); clear hown9 hg9)
             obtain ⟨B9, d9, e9, ht9⟩ := lsl_own HO9.out
             rw [← HI2.out] at e9 ht9
             have HB5 := Lib.hid (HBW.out.trans (HB9.out.mono HBW.out.size))
             go_roundw
             case rel => exact ⟨m2 + 1, B9, d9, hml2, rfl, by rw [HTK.out]; exact HS3.out, by rw [HTK.out, Ix.labAllW_snoc, ← HKK.out]; exact e9, by rw [HTK.out, Ix.labAllW_snoc, ← HKK.out]; exact ht9, HB5.out⟩
             case measure => exact meas_lt0 hml2
           · have HRD : Hid (Row 2 (lkx (K.drop m)) w8 (some (ad.add (m * 2))) (K.length - m)) := Lib.hid (lrow_drop (HK5.out.later HB8.out).row)
             go_wp2_with (at_builtin; go_must (refine wpList_append_row _ rfl _ _ 57 37 rfl 2 32 (.agg #[.string ByteArray.empty, .string ByteArray.empty]) Tryz.underlying57 infoL rfl (by decide) (by decide) w5.heap.size _ (m + 1) ((K.take m).flatMap labC ++ rcells 2 (lx2 (x1, x2)) 1) rfl HO8.out (ad.add (m * 2)) (K.length - m) (d - m) (lkx (K.drop m)) (lkx_one _) rfl HRD.out hk3 hsz8 ?_); intro v9 w9 hown9 hg9; have HO9 := Lib.hid (lab_ins_own hm hown9); have HB9 := Lib.hid (HB8.out.grown hg9 hsz8 (fun r e => (HO8.out.lt r e).1)); clear hown9 hg9)
             obtain ⟨B9, d9, e9, ht9⟩ := lsl_own HO9.out
             rw [← HI2.out] at e9 ht9
             have HB5 := Lib.hid (HBW.out.trans (HB9.out.mono HBW.out.size))
             go_roundw
             case rel => exact ⟨m2 + 1, B9, d9, hml2, rfl, by rw [HTK.out]; exact HS3.out, by rw [HTK.out, Ix.labAllW_snoc, ← HKK.out]; exact e9, by rw [HTK.out, Ix.labAllW_snoc, ← HKK.out]; exact ht9, HB5.out⟩
             case measure => exact meas_lt0 hml2
          | none =>
           obtain ⟨h1, h2⟩ := HK5.out.nil rfl
           obtain rfl : K = [] := List.eq_nil_of_length_eq_zero h1
           obtain rfl : m = 0 := HME.out
           obtain rfl : d = 0 := h2
           obtain ⟨ti, hi0, -, -, -⟩ := info_parts infoL
           have hsz : w5.heap.size ≤ wd2.heap.size := HB12.out.size
           have z0 := cell_of_row _ _ 0 _ _ _ (heap_keep HX5.out HB12.out); have z1 := cell_of_row _ _ 1 _ _ _ (heap_keep HX5.out HB12.out)
           simp only [List.getElem?_toArray, List.getElem?_cons_zero, List.getElem?_cons_succ] at z0 z1
           have HI4 : Hid (Ix.labIns (x1, x2) [] = [(x1, x2)]) := Lib.hid rfl
           clear HI2 HIN HKZ HALL hm h1 HME hK1 d4 d4n hml
           go_upto_region 15 with (at_builtin; go_must (refine wpList_append_own_none rfl _ _ 57 rfl w5.heap.size 37 ti 2 Tryz.underlying57 hi0 _ 0 [] rfl (World.ownsRow_nil _ _ _ _) rfl ?_))
           go_upto_region 16 with (at_builtin; go_must (refine wpList_append_row _ rfl _ _ 57 37 rfl 2 32 (.agg #[.string ByteArray.empty, .string ByteArray.empty]) Tryz.underlying57 infoL rfl (by decide) (by decide) w5.heap.size _ 0 [] rfl (World.ownsRow_nil _ _ _ _) ⟨wd2.heap.size, 0, none⟩ 1 1 (lx2 (x1, x2)) (lx2_one (x1, x2)) rfl (lx2_row wd2 (x1, x2) 37) (by omega) (by simp; omega) ?_); intro v8 w8 hown8 hg8; have HO8 := Lib.hid (show w8.ownsRow w5.heap.size 37 2 v8 [(x1, x2)].length ([(x1, x2)].flatMap labC) from hown8); have HB8 := Lib.hid ((HB12.out.alloc hsz _).grown hg8 (by simp; omega) (fun r e => by cases e)); clear hown8 hg8)
           obtain ⟨A8, c8, hv8, ht8⟩ := lsl_own HO8.out
           subst hv8
           have HT8 := Lib.hid ht8
           clear ht8 z0 z1
           go_wp2_with (at_builtin; go_must (refine wpList_append_own_none rfl _ _ 57 rfl w5.heap.size 37 ti 2 Tryz.underlying57 hi0 _ 1 ([(x1, x2)].flatMap labC) rfl HO8.out rfl ?_))
           have HB5 := Lib.hid (HBW.out.trans (HB8.out.mono HBW.out.size))
           go_roundw
           case rel => exact ⟨m2 + 1, A8, c8, hml2, rfl, by rw [HTK.out]; exact HS3.out, by rw [HTK.out, Ix.labAllW_snoc, ← HKK.out]; exact (by rw [HI4.out]; rfl), by rw [HTK.out, Ix.labAllW_snoc, ← HKK.out]; exact (by rw [HI4.out]; exact HT8.out), HB5.out⟩
           case measure => exact meas_lt0 hml2
     · obtain rfl : m2 = l.length := Nat.le_antisymm hm2 (Nat.le_of_not_lt hml2)
       have d3 : decide ((l.length : Int) < (l.length : Int)) = false := decide_eq_false (Int.lt_irrefl _)
       have hs2 := HS2.out; have ht2 := HT2.out
       rw [List.take_length] at hs2 ht2 ⊢
       have HS4 := Lib.hid hs2; have HT4 := Lib.hid ht2
       clear hs2 ht2 HS2 HT2
       obtain ⟨lv, hlv⟩ : ∃ lv, lv = (Ix.labAllW (W0 ++ l)).length := ⟨_, rfl⟩
       rw [← hlv]
       have HLV := Lib.hid hlv
       clear hlv
       go_wp2_with fail
       go_roundw
       case rel =>
        refine ⟨k + 1, B2, d2, hkn, rfl, ?_, ?_, ?_, HB2.out⟩
        · rw [HWS.out]; exact ⟨by have := HS4.out.few; omega, HS4.out.small⟩
        · rw [HWS.out, HLV.out]
        · rw [HWS.out]; exact HT4.out
       case measure => exact meas_lt0 hkn
  · obtain rfl : k = n := Nat.le_antisymm hk (Nat.le_of_not_lt hkn)
    have d1 : decide ((k : Int) < (k : Int)) = false := decide_eq_false (Int.lt_irrefl _)
    have e : Ix.labAll (entL q k) = Ix.labAllW ((entL q k).flatMap (·.l)) := rfl
    obtain ⟨lv, hlv⟩ : ∃ lv, lv = (Ix.labAllW ((entL q k).flatMap (·.l))).length := ⟨_, rfl⟩
    rw [← hlv]
    have HLV := Lib.hid hlv; have HE := Lib.hid e
    clear hlv e
    go_wp2_with fail
    go_ret
    rw [HE.out]
    exact ⟨B, d, by rw [HLV.out]; rfl, HT.out, HB.out⟩
end Go.Proofs.YtliobahnekohmaaGreat
