import Derived.Test.YtliobahnekohmaaGreatIvD
import Derived.Test.YtliobahnekohmaaGreatLaT
import Derived.Test.YtliobahnekohmaaGreatLaR
import Derived.Test.YtliobahnekohmaaGreatIxC
import Derived.Test.YtliobahnekohmaaGreatIvM
import Derived.Test.YtliobahnekohmaaGreatIvN
import Derived.Test.YtliobahnekohmaaGreatIvO
import Derived.Test.YtliobahnekohmaaGreatRefB
import Derived.Test.YtliobahnekohmaaGreatIwD
/-
  Whether entries are alike, as the document says: the walk.
-/
namespace Go.Proofs.YtliobahnekohmaaGreat
open Go.RowKit
theorem EIn.rsame {w : World} {x y : EAt} (h : EIn w x) (h2 : EIn w y) : ∀ W, Below w.heap.size w W → Calls Tryz.prog 43 #[.slice x.A x.e.l.length x.c, .slice y.A y.e.l.length y.c] W fun e w' => ∃ r, e = .returned (.bool r) ∧ (r = true ↔ x.e.l = y.e.l) ∧ Below W.heap.size W w' := fun W hW =>
 (rSame_any x.A y.A x.e.l.length y.e.l.length x.c y.c (by have := h.len; unfold maxLen; omega) (La.at_ x.e.l) (La.at_ y.e.l) W (h.later hW).row (h2.later hW).row).mono fun e V ⟨he, hb⟩ => ⟨_, he, by rw [La.same_iff, La.listOf_at, La.listOf_at], hb⟩
set_option maxRecDepth 100000 in
set_option maxHeartbeats 16000000 in
theorem rSame12_any (A B : Option Addr) (n m c d : Nat) (q p : Nat → EAt) (w : World) (hA : EntsIn w A n q) (hB : EntsIn w B m p) :
 Calls Tryz.prog 15 #[.slice A n c, .slice B m d] w fun e w' => ∃ r, e = .returned (.bool r) ∧ (r = true ↔ entL q n = entL p m) ∧ Below w.heap.size w w' := by
 have HEQ := Lib.hid (@entL_eq q p n m)
 have hn := hA.len; have hm := hB.len
 have HA := Lib.hid hA; have HB := Lib.hid hB
 clear hA hB
 go_enter Tryz.func15, Tryz.ntmps15
 by_cases hnm : n = m
 · subst hnm
   have d0 : (((n : Nat) : Int) != ((n : Nat) : Int)) = false := by simp
   have d0b : decide (((n : Nat) : Int) = ((n : Nat) : Int)) = true := by simp
   go_wp2_with fail
   go_loopw [5] (fun i wr => ∃ k : Nat, k ≤ n ∧ i = .int .i64 k ∧ (∀ j, j < k → (q j).e = (p j).e) ∧ Below w.heap.size w wr) (fun i _ => n - (intOf i).toNat)
   case atStart => exact ⟨0, by omega, rfl, (fun j hj => absurd hj (by omega)), Below.refl _ _⟩
   case round =>
    obtain ⟨k, hk, rfl, hall, hb⟩ := hrel
    have HBL := Lib.hid hb; have HALL := Lib.hid hall
    clear hb hall d0 d0b
    have i0 : (0 : Int) ≤ (k : Int) := by omega
    by_cases hlt : k < n
    · have i1 : (k : Int) < (n : Int) := by omega
      have dd1 : decide ((k : Int) < (n : Int)) = true := decide_eq_true i1
      have HNO : Hid (¬ (q k).e = (p k).e → ¬ entL q n = entL p n) := Lib.hid (fun h h2 => h ((HEQ.out.1 h2).2 k hlt))
      have HYES : Hid ((q k).e = (p k).e → ∀ j, j < k + 1 → (q j).e = (p j).e) := Lib.hid (fun h j hj => by
       rcases Nat.lt_or_ge j k with h3 | h3
       · exact HALL.out j h3
       · rw [show j = k from by omega]; exact h)
      rw [ent_ext] at HNO HYES
      obtain ⟨ad, rfl, x0, x1, x2, x3⟩ := HA.out.cells HBL.out hlt
      obtain ⟨bd, rfl, y0, y1, y2, y3⟩ := HB.out.cells HBL.out hlt
      have HX0 := Lib.hid x0; have HX1 := Lib.hid x1; have HX2 := Lib.hid x2; have HX3 := Lib.hid x3
      have HY0 := Lib.hid y0; have HY1 := Lib.hid y1; have HY2 := Lib.hid y2; have HY3 := Lib.hid y3
      have HSA := Lib.hid (((HA.out.each k hlt).later HBL.out).rsame ((HB.out.each k hlt).later HBL.out))
      clear x0 x1 x2 x3 y0 y1 y2 y3
      generalize (q k).e.last = a1 at *
      generalize (q k).e.off = a2 at *
      generalize (q k).e.len = a3 at *
      generalize (p k).e.last = b1 at *
      generalize (p k).e.off = b2 at *
      generalize (p k).e.len = b3 at *
      go_upto_region 6 with fail
      refine plain_T (fun U => Below wr.heap.size wr U) [] (by kernel_rfl) ?_
      have HD : Hid (Below wr.heap.size wr wr.drew) := Lib.hid (Below.refl _ _).drew
      generalize wr.drew = wd at HD ⊢
      refine wpAnyT_pick (S := (fun U => Below wr.heap.size wr U)) (by kernel_rfl) Only.panic Only.keepsIn (w := wd) HD.out [0, 1, 2, 3, 4, 5, 6, 7, 8, 9] 41 _ _ (by kernel_rfl) ?_
      refine PickT.value (d := some 17) (.slice (some ad) n c) rfl rfl (by kernel_rfl) (fun U hU => (by go_simp)) ?_
      refine PickT.value (d := some 18) (.int .i64 (k : Int)) rfl rfl (by kernel_rfl) (fun U hU => (by go_simp)) ?_
      refine PickT.value (d := some 19) (.pointer (some (ad.add (k * 4)))) rfl rfl (by kernel_rfl) (fun U hU => (by go_simp)) ?_
      refine PickT.value (d := some 20) (.pointer (some (ad.add (k * 4)))) rfl rfl (by kernel_rfl) (fun U hU => (by go_simp)) ?_
      refine PickT.value (d := some 21) (.slice (q k).A (q k).e.l.length (q k).c) rfl rfl (by kernel_rfl) (fun U hU => (by have h0 := keep_at2 HX0.out hU; go_simp)) ?_
      refine PickT.value (d := some 22) (.slice (some bd) n d) rfl rfl (by kernel_rfl) (fun U hU => (by go_simp)) ?_
      refine PickT.value (d := some 23) (.int .i64 (k : Int)) rfl rfl (by kernel_rfl) (fun U hU => (by go_simp)) ?_
      refine PickT.value (d := some 24) (.pointer (some (bd.add (k * 4)))) rfl rfl (by kernel_rfl) (fun U hU => (by go_simp)) ?_
      refine PickT.value (d := some 25) (.pointer (some (bd.add (k * 4)))) rfl rfl (by kernel_rfl) (fun U hU => (by go_simp)) ?_
      refine PickT.value (d := some 26) (.slice (p k).A (p k).e.l.length (p k).c) rfl rfl (by kernel_rfl) (fun U hU => (by have h0 := keep_at2 HY0.out hU; go_simp)) ?_
      simp only [PickT, Act.put, List.setIfInBounds_toArray, List.set_cons_zero, List.set_cons_succ]
      refine wpAnyT_one (i := 10) (by kernel_rfl) rfl (by kernel_rfl) ?_
      intro K0 hK
      unfold Oper.wp
      go_simp
      refine (HSA.out _ HD.out).mono ?_; rintro e w6 ⟨r1, rfl, hr1, hb6⟩
      have HR1 := Lib.hid hr1; have HB6 := Lib.hid (below_step HD.out hb6)
      clear hr1 hb6 HSA HD
      refine hK _ _ (fun _ => HB6.out) ?_
      clear hK K0
      cases r1 with
      | false =>
       refine wpAnyT_pick (S := (fun U => Below wr.heap.size wr U)) (by kernel_rfl) Only.panic Only.keepsIn (w := w6) HB6.out [11, 12, 13, 14, 15, 16, 17, 18, 19, 20, 21, 22, 23, 24, 25, 26, 27, 28, 29, 30, 31, 32, 33, 34, 35, 36, 37, 38, 39, 40, 41, 42, 43, 44, 45, 46, 47, 48, 49, 50] 0 _ _ (by kernel_rfl) ?_
       refine PickT.value (d := some 28) (.bool true) rfl rfl (by kernel_rfl) (fun U hU => (by go_simp)) ?_
       refine PickT.value (d := some 29) (.bool true) rfl rfl (by kernel_rfl) (fun U hU => (by go_simp)) ?_
       refine PickT.skip (d := some 30) rfl rfl (by kernel_rfl) ?_
       refine PickT.skip (d := some 31) rfl rfl (by kernel_rfl) ?_
       refine PickT.skip (d := some 32) rfl rfl (by kernel_rfl) ?_
       refine PickT.skip (d := some 33) rfl rfl (by kernel_rfl) ?_
       refine PickT.skip (d := some 34) rfl rfl (by kernel_rfl) ?_
       refine PickT.skip (d := some 35) rfl rfl (by kernel_rfl) ?_
       refine PickT.skip (d := some 36) rfl rfl (by kernel_rfl) ?_
       refine PickT.skip (d := some 37) rfl rfl (by kernel_rfl) ?_
       refine PickT.skip (d := some 38) rfl rfl (by kernel_rfl) ?_
       refine PickT.skip (d := some 39) rfl rfl (by kernel_rfl) ?_
       refine PickT.skip (d := some 40) rfl rfl (by kernel_rfl) ?_
       refine PickT.value (d := some 41) (.bool true) rfl rfl (by kernel_rfl) (fun U hU => (by go_simp)) ?_
       refine PickT.value (d := some 42) (.bool true) rfl rfl (by kernel_rfl) (fun U hU => (by go_simp)) ?_
       refine PickT.skip (d := some 43) rfl rfl (by kernel_rfl) ?_
       refine PickT.skip (d := some 44) rfl rfl (by kernel_rfl) ?_
       refine PickT.skip (d := some 45) rfl rfl (by kernel_rfl) ?_
       refine PickT.skip (d := some 46) rfl rfl (by kernel_rfl) ?_
       refine PickT.skip (d := some 47) rfl rfl (by kernel_rfl) ?_
       refine PickT.skip (d := some 48) rfl rfl (by kernel_rfl) ?_
       refine PickT.skip (d := some 49) rfl rfl (by kernel_rfl) ?_
       refine PickT.skip (d := some 50) rfl rfl (by kernel_rfl) ?_
       refine PickT.skip (d := some 51) rfl rfl (by kernel_rfl) ?_
       refine PickT.skip (d := some 52) rfl rfl (by kernel_rfl) ?_
       refine PickT.skip (d := some 53) rfl rfl (by kernel_rfl) ?_
       refine PickT.value (d := some 54) (.bool true) rfl rfl (by kernel_rfl) (fun U hU => (by go_simp)) ?_
       refine PickT.value (d := some 55) (.bool true) rfl rfl (by kernel_rfl) (fun U hU => (by go_simp)) ?_
       refine PickT.skip (d := some 56) rfl rfl (by kernel_rfl) ?_
       refine PickT.skip (d := some 57) rfl rfl (by kernel_rfl) ?_
       refine PickT.skip (d := some 58) rfl rfl (by kernel_rfl) ?_
       refine PickT.skip (d := some 59) rfl rfl (by kernel_rfl) ?_
       refine PickT.skip (d := some 60) rfl rfl (by kernel_rfl) ?_
       refine PickT.skip (d := some 61) rfl rfl (by kernel_rfl) ?_
       refine PickT.skip (d := some 62) rfl rfl (by kernel_rfl) ?_
       refine PickT.skip (d := some 63) rfl rfl (by kernel_rfl) ?_
       refine PickT.skip (d := some 64) rfl rfl (by kernel_rfl) ?_
       refine PickT.skip (d := some 65) rfl rfl (by kernel_rfl) ?_
       refine PickT.skip (d := some 66) rfl rfl (by kernel_rfl) ?_
       refine PickT.value (d := some 67) (.bool true) rfl rfl (by kernel_rfl) (fun U hU => (by go_simp)) ?_
       simp only [PickT, Act.put, List.setIfInBounds_toArray, List.set_cons_zero, List.set_cons_succ]
       refine wpAnyT_done (by kernel_rfl) ?_ _
       refine only_mk ?_
       have HBN := Lib.hid (below_step HBL.out HB6.out)
       have hv := HNO.out (fun h => by have := HR1.out.2 h.1; cases this)
       have HV := Lib.hid hv
       clear hv HNO HYES
       go_wp2_with fail
       go_ret
       first | exact ⟨false, rfl, ⟨fun h => (by cases h), fun h => absurd h HV.out⟩, HBN.out⟩ | exact Or.inl ⟨rfl, HV.out, HBN.out⟩
      | true =>
       have HLAB := Lib.hid (HR1.out.1 (by trivial))
       by_cases e1 : a1 = b1
       · have f1 : (a1 != b1) = false := by simp [e1]
         have E1 := Lib.hid e1
         clear e1
         by_cases e2 : a2 = b2
         · have f2 : (a2 != b2) = false := by simp [e2]
           have E2 := Lib.hid e2
           clear e2
           by_cases e3 : a3 = b3
           · have f3 : (a3 != b3) = false := by simp [e3]
             have HY := Lib.hid (HYES.out ⟨HLAB.out, E1.out, E2.out, e3⟩)
             clear e3 HNO HYES
             refine wpAnyT_pick (S := (fun U => Below wr.heap.size wr U)) (by kernel_rfl) Only.panic Only.keepsIn (w := w6) HB6.out [11, 12, 13, 14, 15, 16, 17, 18, 19, 20, 21, 22, 23, 24, 25, 26, 27, 28, 29, 30, 31, 32, 33, 34, 35, 36, 37, 38, 39, 40, 41, 42, 43, 44, 45, 46, 47, 48, 49, 50] 0 _ _ (by kernel_rfl) ?_
             refine PickT.value (d := some 28) (.bool false) rfl rfl (by kernel_rfl) (fun U hU => (by go_simp)) ?_
             refine PickT.value (d := some 29) (.bool false) rfl rfl (by kernel_rfl) (fun U hU => (by go_simp)) ?_
             refine PickT.value (d := some 30) (.slice (some ad) n c) rfl rfl (by kernel_rfl) (fun U hU => (by go_simp)) ?_
             refine PickT.value (d := some 31) (.int .i64 (k : Int)) rfl rfl (by kernel_rfl) (fun U hU => (by go_simp)) ?_
             refine PickT.value (d := some 32) (.pointer (some (ad.add (k * 4)))) rfl rfl (by kernel_rfl) (fun U hU => (by go_simp)) ?_
             refine PickT.value (d := some 33) (.pointer (some ⟨(ad.add (k * 4)).block, (ad.add (k * 4)).off + 1, none⟩)) rfl rfl (by kernel_rfl) (fun U hU => (by go_simp)) ?_
             refine PickT.value (d := some 34) (.int .i64 a1) rfl rfl (by kernel_rfl) (fun U hU => (by have h0 := keep_at2 HX1.out hU; go_simp)) ?_
             refine PickT.value (d := some 35) (.slice (some bd) n d) rfl rfl (by kernel_rfl) (fun U hU => (by go_simp)) ?_
             refine PickT.value (d := some 36) (.int .i64 (k : Int)) rfl rfl (by kernel_rfl) (fun U hU => (by go_simp)) ?_
             refine PickT.value (d := some 37) (.pointer (some (bd.add (k * 4)))) rfl rfl (by kernel_rfl) (fun U hU => (by go_simp)) ?_
             refine PickT.value (d := some 38) (.pointer (some ⟨(bd.add (k * 4)).block, (bd.add (k * 4)).off + 1, none⟩)) rfl rfl (by kernel_rfl) (fun U hU => (by go_simp)) ?_
             refine PickT.value (d := some 39) (.int .i64 b1) rfl rfl (by kernel_rfl) (fun U hU => (by have h0 := keep_at2 HY1.out hU; go_simp)) ?_
             refine PickT.value (d := some 40) (.bool false) rfl rfl (by kernel_rfl) (fun U hU => (by go_simp)) ?_
             refine PickT.value (d := some 41) (.bool false) rfl rfl (by kernel_rfl) (fun U hU => (by go_simp)) ?_
             refine PickT.value (d := some 42) (.bool false) rfl rfl (by kernel_rfl) (fun U hU => (by go_simp)) ?_
             refine PickT.value (d := some 43) (.slice (some ad) n c) rfl rfl (by kernel_rfl) (fun U hU => (by go_simp)) ?_
             refine PickT.value (d := some 44) (.int .i64 (k : Int)) rfl rfl (by kernel_rfl) (fun U hU => (by go_simp)) ?_
             refine PickT.value (d := some 45) (.pointer (some (ad.add (k * 4)))) rfl rfl (by kernel_rfl) (fun U hU => (by go_simp)) ?_
             refine PickT.value (d := some 46) (.pointer (some ⟨(ad.add (k * 4)).block, (ad.add (k * 4)).off + 2, none⟩)) rfl rfl (by kernel_rfl) (fun U hU => (by go_simp)) ?_
             refine PickT.value (d := some 47) (.int .i64 a2) rfl rfl (by kernel_rfl) (fun U hU => (by have h0 := keep_at2 HX2.out hU; go_simp)) ?_
             refine PickT.value (d := some 48) (.slice (some bd) n d) rfl rfl (by kernel_rfl) (fun U hU => (by go_simp)) ?_
             refine PickT.value (d := some 49) (.int .i64 (k : Int)) rfl rfl (by kernel_rfl) (fun U hU => (by go_simp)) ?_
             refine PickT.value (d := some 50) (.pointer (some (bd.add (k * 4)))) rfl rfl (by kernel_rfl) (fun U hU => (by go_simp)) ?_
             refine PickT.value (d := some 51) (.pointer (some ⟨(bd.add (k * 4)).block, (bd.add (k * 4)).off + 2, none⟩)) rfl rfl (by kernel_rfl) (fun U hU => (by go_simp)) ?_
             refine PickT.value (d := some 52) (.int .i64 b2) rfl rfl (by kernel_rfl) (fun U hU => (by have h0 := keep_at2 HY2.out hU; go_simp)) ?_
             refine PickT.value (d := some 53) (.bool false) rfl rfl (by kernel_rfl) (fun U hU => (by go_simp)) ?_
             refine PickT.value (d := some 54) (.bool false) rfl rfl (by kernel_rfl) (fun U hU => (by go_simp)) ?_
             refine PickT.value (d := some 55) (.bool false) rfl rfl (by kernel_rfl) (fun U hU => (by go_simp)) ?_
             refine PickT.value (d := some 56) (.slice (some ad) n c) rfl rfl (by kernel_rfl) (fun U hU => (by go_simp)) ?_
             refine PickT.value (d := some 57) (.int .i64 (k : Int)) rfl rfl (by kernel_rfl) (fun U hU => (by go_simp)) ?_
             refine PickT.value (d := some 58) (.pointer (some (ad.add (k * 4)))) rfl rfl (by kernel_rfl) (fun U hU => (by go_simp)) ?_
             refine PickT.value (d := some 59) (.pointer (some ⟨(ad.add (k * 4)).block, (ad.add (k * 4)).off + 3, none⟩)) rfl rfl (by kernel_rfl) (fun U hU => (by go_simp)) ?_
             refine PickT.value (d := some 60) (.int .i64 a3) rfl rfl (by kernel_rfl) (fun U hU => (by have h0 := keep_at2 HX3.out hU; go_simp)) ?_
             refine PickT.value (d := some 61) (.slice (some bd) n d) rfl rfl (by kernel_rfl) (fun U hU => (by go_simp)) ?_
             refine PickT.value (d := some 62) (.int .i64 (k : Int)) rfl rfl (by kernel_rfl) (fun U hU => (by go_simp)) ?_
             refine PickT.value (d := some 63) (.pointer (some (bd.add (k * 4)))) rfl rfl (by kernel_rfl) (fun U hU => (by go_simp)) ?_
             refine PickT.value (d := some 64) (.pointer (some ⟨(bd.add (k * 4)).block, (bd.add (k * 4)).off + 3, none⟩)) rfl rfl (by kernel_rfl) (fun U hU => (by go_simp)) ?_
             refine PickT.value (d := some 65) (.int .i64 b3) rfl rfl (by kernel_rfl) (fun U hU => (by have h0 := keep_at2 HY3.out hU; go_simp)) ?_
             refine PickT.value (d := some 66) (.bool false) rfl rfl (by kernel_rfl) (fun U hU => (by go_simp)) ?_
             refine PickT.value (d := some 67) (.bool false) rfl rfl (by kernel_rfl) (fun U hU => (by go_simp)) ?_
             simp only [PickT, Act.put, List.setIfInBounds_toArray, List.set_cons_zero, List.set_cons_succ]
             refine wpAnyT_done (by kernel_rfl) ?_ _
             refine only_mk ?_
             have HBN := Lib.hid (below_step HBL.out HB6.out)
             go_wp2_with fail
             go_roundw
             case rel => exact ⟨k + 1, by omega, by go_num, HY.out, HBN.out⟩
             case measure => simp [intOf]; omega
           · have f3 : (a3 != b3) = true := by simp [e3]
             have E3 := Lib.hid e3
             clear e3
             refine wpAnyT_pick (S := (fun U => Below wr.heap.size wr U)) (by kernel_rfl) Only.panic Only.keepsIn (w := w6) HB6.out [11, 12, 13, 14, 15, 16, 17, 18, 19, 20, 21, 22, 23, 24, 25, 26, 27, 28, 29, 30, 31, 32, 33, 34, 35, 36, 37, 38, 39, 40, 41, 42, 43, 44, 45, 46, 47, 48, 49, 50] 0 _ _ (by kernel_rfl) ?_
             refine PickT.value (d := some 28) (.bool false) rfl rfl (by kernel_rfl) (fun U hU => (by go_simp)) ?_
             refine PickT.value (d := some 29) (.bool false) rfl rfl (by kernel_rfl) (fun U hU => (by go_simp)) ?_
             refine PickT.value (d := some 30) (.slice (some ad) n c) rfl rfl (by kernel_rfl) (fun U hU => (by go_simp)) ?_
             refine PickT.value (d := some 31) (.int .i64 (k : Int)) rfl rfl (by kernel_rfl) (fun U hU => (by go_simp)) ?_
             refine PickT.value (d := some 32) (.pointer (some (ad.add (k * 4)))) rfl rfl (by kernel_rfl) (fun U hU => (by go_simp)) ?_
             refine PickT.value (d := some 33) (.pointer (some ⟨(ad.add (k * 4)).block, (ad.add (k * 4)).off + 1, none⟩)) rfl rfl (by kernel_rfl) (fun U hU => (by go_simp)) ?_
             refine PickT.value (d := some 34) (.int .i64 a1) rfl rfl (by kernel_rfl) (fun U hU => (by have h0 := keep_at2 HX1.out hU; go_simp)) ?_
             refine PickT.value (d := some 35) (.slice (some bd) n d) rfl rfl (by kernel_rfl) (fun U hU => (by go_simp)) ?_
             refine PickT.value (d := some 36) (.int .i64 (k : Int)) rfl rfl (by kernel_rfl) (fun U hU => (by go_simp)) ?_
             refine PickT.value (d := some 37) (.pointer (some (bd.add (k * 4)))) rfl rfl (by kernel_rfl) (fun U hU => (by go_simp)) ?_
             refine PickT.value (d := some 38) (.pointer (some ⟨(bd.add (k * 4)).block, (bd.add (k * 4)).off + 1, none⟩)) rfl rfl (by kernel_rfl) (fun U hU => (by go_simp)) ?_
             refine PickT.value (d := some 39) (.int .i64 b1) rfl rfl (by kernel_rfl) (fun U hU => (by have h0 := keep_at2 HY1.out hU; go_simp)) ?_
             refine PickT.value (d := some 40) (.bool false) rfl rfl (by kernel_rfl) (fun U hU => (by go_simp)) ?_
             refine PickT.value (d := some 41) (.bool false) rfl rfl (by kernel_rfl) (fun U hU => (by go_simp)) ?_
             refine PickT.value (d := some 42) (.bool false) rfl rfl (by kernel_rfl) (fun U hU => (by go_simp)) ?_
             refine PickT.value (d := some 43) (.slice (some ad) n c) rfl rfl (by kernel_rfl) (fun U hU => (by go_simp)) ?_
             refine PickT.value (d := some 44) (.int .i64 (k : Int)) rfl rfl (by kernel_rfl) (fun U hU => (by go_simp)) ?_
             refine PickT.value (d := some 45) (.pointer (some (ad.add (k * 4)))) rfl rfl (by kernel_rfl) (fun U hU => (by go_simp)) ?_
             refine PickT.value (d := some 46) (.pointer (some ⟨(ad.add (k * 4)).block, (ad.add (k * 4)).off + 2, none⟩)) rfl rfl (by kernel_rfl) (fun U hU => (by go_simp)) ?_
             refine PickT.value (d := some 47) (.int .i64 a2) rfl rfl (by kernel_rfl) (fun U hU => (by have h0 := keep_at2 HX2.out hU; go_simp)) ?_
             refine PickT.value (d := some 48) (.slice (some bd) n d) rfl rfl (by kernel_rfl) (fun U hU => (by go_simp)) ?_
             refine PickT.value (d := some 49) (.int .i64 (k : Int)) rfl rfl (by kernel_rfl) (fun U hU => (by go_simp)) ?_
             refine PickT.value (d := some 50) (.pointer (some (bd.add (k * 4)))) rfl rfl (by kernel_rfl) (fun U hU => (by go_simp)) ?_
             refine PickT.value (d := some 51) (.pointer (some ⟨(bd.add (k * 4)).block, (bd.add (k * 4)).off + 2, none⟩)) rfl rfl (by kernel_rfl) (fun U hU => (by go_simp)) ?_
             refine PickT.value (d := some 52) (.int .i64 b2) rfl rfl (by kernel_rfl) (fun U hU => (by have h0 := keep_at2 HY2.out hU; go_simp)) ?_
             refine PickT.value (d := some 53) (.bool false) rfl rfl (by kernel_rfl) (fun U hU => (by go_simp)) ?_
             refine PickT.value (d := some 54) (.bool false) rfl rfl (by kernel_rfl) (fun U hU => (by go_simp)) ?_
             refine PickT.value (d := some 55) (.bool false) rfl rfl (by kernel_rfl) (fun U hU => (by go_simp)) ?_
             refine PickT.value (d := some 56) (.slice (some ad) n c) rfl rfl (by kernel_rfl) (fun U hU => (by go_simp)) ?_
             refine PickT.value (d := some 57) (.int .i64 (k : Int)) rfl rfl (by kernel_rfl) (fun U hU => (by go_simp)) ?_
             refine PickT.value (d := some 58) (.pointer (some (ad.add (k * 4)))) rfl rfl (by kernel_rfl) (fun U hU => (by go_simp)) ?_
             refine PickT.value (d := some 59) (.pointer (some ⟨(ad.add (k * 4)).block, (ad.add (k * 4)).off + 3, none⟩)) rfl rfl (by kernel_rfl) (fun U hU => (by go_simp)) ?_
             refine PickT.value (d := some 60) (.int .i64 a3) rfl rfl (by kernel_rfl) (fun U hU => (by have h0 := keep_at2 HX3.out hU; go_simp)) ?_
             refine PickT.value (d := some 61) (.slice (some bd) n d) rfl rfl (by kernel_rfl) (fun U hU => (by go_simp)) ?_
             refine PickT.value (d := some 62) (.int .i64 (k : Int)) rfl rfl (by kernel_rfl) (fun U hU => (by go_simp)) ?_
             refine PickT.value (d := some 63) (.pointer (some (bd.add (k * 4)))) rfl rfl (by kernel_rfl) (fun U hU => (by go_simp)) ?_
             refine PickT.value (d := some 64) (.pointer (some ⟨(bd.add (k * 4)).block, (bd.add (k * 4)).off + 3, none⟩)) rfl rfl (by kernel_rfl) (fun U hU => (by go_simp)) ?_
             refine PickT.value (d := some 65) (.int .i64 b3) rfl rfl (by kernel_rfl) (fun U hU => (by have h0 := keep_at2 HY3.out hU; go_simp)) ?_
             refine PickT.value (d := some 66) (.bool true) rfl rfl (by kernel_rfl) (fun U hU => (by go_simp)) ?_
             refine PickT.value (d := some 67) (.bool true) rfl rfl (by kernel_rfl) (fun U hU => (by go_simp)) ?_
             simp only [PickT, Act.put, List.setIfInBounds_toArray, List.set_cons_zero, List.set_cons_succ]
             refine wpAnyT_done (by kernel_rfl) ?_ _
             refine only_mk ?_
             have HBN := Lib.hid (below_step HBL.out HB6.out)
             have hv := HNO.out (fun h => E3.out h.2.2.2)
             have HV := Lib.hid hv
             clear hv HNO HYES
             go_wp2_with fail
             go_ret
             first | exact ⟨false, rfl, ⟨fun h => (by cases h), fun h => absurd h HV.out⟩, HBN.out⟩ | exact Or.inl ⟨rfl, HV.out, HBN.out⟩
         · have f2 : (a2 != b2) = true := by simp [e2]
           have E2 := Lib.hid e2
           clear e2
           refine wpAnyT_pick (S := (fun U => Below wr.heap.size wr U)) (by kernel_rfl) Only.panic Only.keepsIn (w := w6) HB6.out [11, 12, 13, 14, 15, 16, 17, 18, 19, 20, 21, 22, 23, 24, 25, 26, 27, 28, 29, 30, 31, 32, 33, 34, 35, 36, 37, 38, 39, 40, 41, 42, 43, 44, 45, 46, 47, 48, 49, 50] 0 _ _ (by kernel_rfl) ?_
           refine PickT.value (d := some 28) (.bool false) rfl rfl (by kernel_rfl) (fun U hU => (by go_simp)) ?_
           refine PickT.value (d := some 29) (.bool false) rfl rfl (by kernel_rfl) (fun U hU => (by go_simp)) ?_
           refine PickT.value (d := some 30) (.slice (some ad) n c) rfl rfl (by kernel_rfl) (fun U hU => (by go_simp)) ?_
           refine PickT.value (d := some 31) (.int .i64 (k : Int)) rfl rfl (by kernel_rfl) (fun U hU => (by go_simp)) ?_
           refine PickT.value (d := some 32) (.pointer (some (ad.add (k * 4)))) rfl rfl (by kernel_rfl) (fun U hU => (by go_simp)) ?_
           refine PickT.value (d := some 33) (.pointer (some ⟨(ad.add (k * 4)).block, (ad.add (k * 4)).off + 1, none⟩)) rfl rfl (by kernel_rfl) (fun U hU => (by go_simp)) ?_
           refine PickT.value (d := some 34) (.int .i64 a1) rfl rfl (by kernel_rfl) (fun U hU => (by have h0 := keep_at2 HX1.out hU; go_simp)) ?_
           refine PickT.value (d := some 35) (.slice (some bd) n d) rfl rfl (by kernel_rfl) (fun U hU => (by go_simp)) ?_
           refine PickT.value (d := some 36) (.int .i64 (k : Int)) rfl rfl (by kernel_rfl) (fun U hU => (by go_simp)) ?_
           refine PickT.value (d := some 37) (.pointer (some (bd.add (k * 4)))) rfl rfl (by kernel_rfl) (fun U hU => (by go_simp)) ?_
           refine PickT.value (d := some 38) (.pointer (some ⟨(bd.add (k * 4)).block, (bd.add (k * 4)).off + 1, none⟩)) rfl rfl (by kernel_rfl) (fun U hU => (by go_simp)) ?_
           refine PickT.value (d := some 39) (.int .i64 b1) rfl rfl (by kernel_rfl) (fun U hU => (by have h0 := keep_at2 HY1.out hU; go_simp)) ?_
           refine PickT.value (d := some 40) (.bool false) rfl rfl (by kernel_rfl) (fun U hU => (by go_simp)) ?_
           refine PickT.value (d := some 41) (.bool false) rfl rfl (by kernel_rfl) (fun U hU => (by go_simp)) ?_
           refine PickT.value (d := some 42) (.bool false) rfl rfl (by kernel_rfl) (fun U hU => (by go_simp)) ?_
           refine PickT.value (d := some 43) (.slice (some ad) n c) rfl rfl (by kernel_rfl) (fun U hU => (by go_simp)) ?_
           refine PickT.value (d := some 44) (.int .i64 (k : Int)) rfl rfl (by kernel_rfl) (fun U hU => (by go_simp)) ?_
           refine PickT.value (d := some 45) (.pointer (some (ad.add (k * 4)))) rfl rfl (by kernel_rfl) (fun U hU => (by go_simp)) ?_
           refine PickT.value (d := some 46) (.pointer (some ⟨(ad.add (k * 4)).block, (ad.add (k * 4)).off + 2, none⟩)) rfl rfl (by kernel_rfl) (fun U hU => (by go_simp)) ?_
           refine PickT.value (d := some 47) (.int .i64 a2) rfl rfl (by kernel_rfl) (fun U hU => (by have h0 := keep_at2 HX2.out hU; go_simp)) ?_
           refine PickT.value (d := some 48) (.slice (some bd) n d) rfl rfl (by kernel_rfl) (fun U hU => (by go_simp)) ?_
           refine PickT.value (d := some 49) (.int .i64 (k : Int)) rfl rfl (by kernel_rfl) (fun U hU => (by go_simp)) ?_
           refine PickT.value (d := some 50) (.pointer (some (bd.add (k * 4)))) rfl rfl (by kernel_rfl) (fun U hU => (by go_simp)) ?_
           refine PickT.value (d := some 51) (.pointer (some ⟨(bd.add (k * 4)).block, (bd.add (k * 4)).off + 2, none⟩)) rfl rfl (by kernel_rfl) (fun U hU => (by go_simp)) ?_
           refine PickT.value (d := some 52) (.int .i64 b2) rfl rfl (by kernel_rfl) (fun U hU => (by have h0 := keep_at2 HY2.out hU; go_simp)) ?_
           refine PickT.value (d := some 53) (.bool true) rfl rfl (by kernel_rfl) (fun U hU => (by go_simp)) ?_
           refine PickT.value (d := some 54) (.bool true) rfl rfl (by kernel_rfl) (fun U hU => (by go_simp)) ?_
           refine PickT.value (d := some 55) (.bool true) rfl rfl (by kernel_rfl) (fun U hU => (by go_simp)) ?_
           refine PickT.skip (d := some 56) rfl rfl (by kernel_rfl) ?_
           refine PickT.skip (d := some 57) rfl rfl (by kernel_rfl) ?_
           refine PickT.skip (d := some 58) rfl rfl (by kernel_rfl) ?_
           refine PickT.skip (d := some 59) rfl rfl (by kernel_rfl) ?_
           refine PickT.skip (d := some 60) rfl rfl (by kernel_rfl) ?_
           refine PickT.skip (d := some 61) rfl rfl (by kernel_rfl) ?_
           refine PickT.skip (d := some 62) rfl rfl (by kernel_rfl) ?_
           refine PickT.skip (d := some 63) rfl rfl (by kernel_rfl) ?_
           refine PickT.skip (d := some 64) rfl rfl (by kernel_rfl) ?_
           refine PickT.skip (d := some 65) rfl rfl (by kernel_rfl) ?_
           refine PickT.skip (d := some 66) rfl rfl (by kernel_rfl) ?_
           refine PickT.value (d := some 67) (.bool true) rfl rfl (by kernel_rfl) (fun U hU => (by go_simp)) ?_
           simp only [PickT, Act.put, List.setIfInBounds_toArray, List.set_cons_zero, List.set_cons_succ]
           refine wpAnyT_done (by kernel_rfl) ?_ _
           refine only_mk ?_
           have HBN := Lib.hid (below_step HBL.out HB6.out)
           have hv := HNO.out (fun h => E2.out h.2.2.1)
           have HV := Lib.hid hv
           clear hv HNO HYES
           go_wp2_with fail
           go_ret
           first | exact ⟨false, rfl, ⟨fun h => (by cases h), fun h => absurd h HV.out⟩, HBN.out⟩ | exact Or.inl ⟨rfl, HV.out, HBN.out⟩
       · have f1 : (a1 != b1) = true := by simp [e1]
         have E1 := Lib.hid e1
         clear e1
         refine wpAnyT_pick (S := (fun U => Below wr.heap.size wr U)) (by kernel_rfl) Only.panic Only.keepsIn (w := w6) HB6.out [11, 12, 13, 14, 15, 16, 17, 18, 19, 20, 21, 22, 23, 24, 25, 26, 27, 28, 29, 30, 31, 32, 33, 34, 35, 36, 37, 38, 39, 40, 41, 42, 43, 44, 45, 46, 47, 48, 49, 50] 0 _ _ (by kernel_rfl) ?_
         refine PickT.value (d := some 28) (.bool false) rfl rfl (by kernel_rfl) (fun U hU => (by go_simp)) ?_
         refine PickT.value (d := some 29) (.bool false) rfl rfl (by kernel_rfl) (fun U hU => (by go_simp)) ?_
         refine PickT.value (d := some 30) (.slice (some ad) n c) rfl rfl (by kernel_rfl) (fun U hU => (by go_simp)) ?_
         refine PickT.value (d := some 31) (.int .i64 (k : Int)) rfl rfl (by kernel_rfl) (fun U hU => (by go_simp)) ?_
         refine PickT.value (d := some 32) (.pointer (some (ad.add (k * 4)))) rfl rfl (by kernel_rfl) (fun U hU => (by go_simp)) ?_
         refine PickT.value (d := some 33) (.pointer (some ⟨(ad.add (k * 4)).block, (ad.add (k * 4)).off + 1, none⟩)) rfl rfl (by kernel_rfl) (fun U hU => (by go_simp)) ?_
         refine PickT.value (d := some 34) (.int .i64 a1) rfl rfl (by kernel_rfl) (fun U hU => (by have h0 := keep_at2 HX1.out hU; go_simp)) ?_
         refine PickT.value (d := some 35) (.slice (some bd) n d) rfl rfl (by kernel_rfl) (fun U hU => (by go_simp)) ?_
         refine PickT.value (d := some 36) (.int .i64 (k : Int)) rfl rfl (by kernel_rfl) (fun U hU => (by go_simp)) ?_
         refine PickT.value (d := some 37) (.pointer (some (bd.add (k * 4)))) rfl rfl (by kernel_rfl) (fun U hU => (by go_simp)) ?_
         refine PickT.value (d := some 38) (.pointer (some ⟨(bd.add (k * 4)).block, (bd.add (k * 4)).off + 1, none⟩)) rfl rfl (by kernel_rfl) (fun U hU => (by go_simp)) ?_
         refine PickT.value (d := some 39) (.int .i64 b1) rfl rfl (by kernel_rfl) (fun U hU => (by have h0 := keep_at2 HY1.out hU; go_simp)) ?_
         refine PickT.value (d := some 40) (.bool true) rfl rfl (by kernel_rfl) (fun U hU => (by go_simp)) ?_
         refine PickT.value (d := some 41) (.bool true) rfl rfl (by kernel_rfl) (fun U hU => (by go_simp)) ?_
         refine PickT.value (d := some 42) (.bool true) rfl rfl (by kernel_rfl) (fun U hU => (by go_simp)) ?_
         refine PickT.skip (d := some 43) rfl rfl (by kernel_rfl) ?_
         refine PickT.skip (d := some 44) rfl rfl (by kernel_rfl) ?_
         refine PickT.skip (d := some 45) rfl rfl (by kernel_rfl) ?_
         refine PickT.skip (d := some 46) rfl rfl (by kernel_rfl) ?_
         refine PickT.skip (d := some 47) rfl rfl (by kernel_rfl) ?_
         refine PickT.skip (d := some 48) rfl rfl (by kernel_rfl) ?_
         refine PickT.skip (d := some 49) rfl rfl (by kernel_rfl) ?_
         refine PickT.skip (d := some 50) rfl rfl (by kernel_rfl) ?_
         refine PickT.skip (d := some 51) rfl rfl (by kernel_rfl) ?_
         refine PickT.skip (d := some 52) rfl rfl (by kernel_rfl) ?_
         refine PickT.skip (d := some 53) rfl rfl (by kernel_rfl) ?_
         refine PickT.value (d := some 54) (.bool true) rfl rfl (by kernel_rfl) (fun U hU => (by go_simp)) ?_
         refine PickT.value (d := some 55) (.bool true) rfl rfl (by kernel_rfl) (fun U hU => (by go_simp)) ?_
         refine PickT.skip (d := some 56) rfl rfl (by kernel_rfl) ?_
         refine PickT.skip (d := some 57) rfl rfl (by kernel_rfl) ?_
         refine PickT.skip (d := some 58) rfl rfl (by kernel_rfl) ?_
         refine PickT.skip (d := some 59) rfl rfl (by kernel_rfl) ?_
         refine PickT.skip (d := some 60) rfl rfl (by kernel_rfl) ?_
         refine PickT.skip (d := some 61) rfl rfl (by kernel_rfl) ?_
         refine PickT.skip (d := some 62) rfl rfl (by kernel_rfl) ?_
         refine PickT.skip (d := some 63) rfl rfl (by kernel_rfl) ?_
         refine PickT.skip (d := some 64) rfl rfl (by kernel_rfl) ?_
         refine PickT.skip (d := some 65) rfl rfl (by kernel_rfl) ?_
         refine PickT.skip (d := some 66) rfl rfl (by kernel_rfl) ?_
         refine PickT.value (d := some 67) (.bool true) rfl rfl (by kernel_rfl) (fun U hU => (by go_simp)) ?_
         simp only [PickT, Act.put, List.setIfInBounds_toArray, List.set_cons_zero, List.set_cons_succ]
         refine wpAnyT_done (by kernel_rfl) ?_ _
         refine only_mk ?_
         have HBN := Lib.hid (below_step HBL.out HB6.out)
         have hv := HNO.out (fun h => E1.out h.2.1)
         have HV := Lib.hid hv
         clear hv HNO HYES
         go_wp2_with fail
         go_ret
         first | exact ⟨false, rfl, ⟨fun h => (by cases h), fun h => absurd h HV.out⟩, HBN.out⟩ | exact Or.inl ⟨rfl, HV.out, HBN.out⟩
    · obtain rfl : k = n := by omega
      have dd1 : decide ((k : Int) < (k : Int)) = false := decide_eq_false (by omega)
      have hv := HEQ.out.2 ⟨by trivial, HALL.out⟩
      have HV := Lib.hid hv
      clear hv
      go_wp2_with fail
      go_ret
      exact ⟨true, rfl, ⟨fun _ => HV.out, fun _ => by trivial⟩, HBL.out⟩
 · have d0 : (((n : Nat) : Int) != ((m : Nat) : Int)) = true := by simp; omega
   have HV : Hid (¬ entL q n = entL p m) := Lib.hid (fun h => hnm (HEQ.out.1 h).1)
   clear hnm
   go_wp2_with fail
   go_ret
   exact ⟨false, rfl, ⟨fun h => (by cases h), fun h => absurd h HV.out⟩, Below.refl _ _⟩
end Go.Proofs.YtliobahnekohmaaGreat
/-
  The document's Put; IndexPuts: the walks.
-/
namespace Go.Proofs.YtliobahnekohmaaGreat
open Go.RowKit
set_option maxRecDepth 100000 in
set_option maxHeartbeats 8000000 in
theorem rPut12_any (A : Option Addr) (n c : Nat) (q : Nat → EAt) (g : Int) (w : World) (h : EntsIn w A n q) :
 Calls Tryz.prog 12 #[.slice A n c, .int .i64 g] w fun e w' => e = .returned (.tuple #[.string (Ix.put g (entL q n)).1, .int .i64 (Ix.put g (entL q n)).2]) ∧ Below w.heap.size w w' := by
 have HV := Lib.hid (rValid12_any A n c q g w h)
 have HA := Lib.hid h
 by_cases hv : Ix.valid (entL q n) g = 0
 · have hput := Ix.put_ok hv
   rw [hv] at HV
   have HPUT := Lib.hid hput
   obtain ⟨hgood, hg3, -⟩ := egood h hv
   have hbz := body_size (g := g) hgood
   have hnl := entL_length q n
   have hbe : Ix.body g (entL q n) = if g = 1 then Num.wideB n ++ Ix.ents Ix.one1 (entL q n) else if g = 2 then Num.smallB (Ix.syms (entL q n)).length ++ Ix.symsB false ByteArray.empty (Ix.syms (entL q n)) ++ (Num.smallB n ++ Ix.ents (Ix.one2 (Ix.syms (entL q n))) (entL q n))
    else Num.smallB (Ix.syms (entL q n)).length ++ Ix.symsB true ByteArray.empty (Ix.syms (entL q n)) ++ (Num.smallB n ++ Ix.ents3 (Ix.syms (entL q n)) 0 0 (entL q n) ++ Ix.postsB (entL q n) (Ix.labAll (entL q n))) := by unfold Ix.body; rw [hnl]
   have HEG : Hid (∀ U, Below w.heap.size w U → EGood U A n q) := Lib.hid (fun U hU => ⟨h.later hU, hgood.few, hgood.labs, hgood.short, hgood.last, hgood.off, hgood.len⟩)
   have H1 : Hid (g = 1 → ∀ U, Below w.heap.size w U → Calls Tryz.prog 35 #[.slice A n c] U fun e w' => e = .returned (.string (Ix.body g (entL q n))) ∧ Below U.heap.size U w') := Lib.hid (fun hg U hU => by
    rw [hbe, if_pos hg]; exact rone_any A n c q U (HEG.out U hU))
   have H2 : Hid (g = 2 → ∀ U, Below w.heap.size w U → Calls Tryz.prog 36 #[.slice A n c, .int .i64 2] U fun e w' => e = .returned (.string (Ix.body g (entL q n))) ∧ Below U.heap.size U w') := Lib.hid (fun hg U hU => by
    rw [hbe, if_neg (by omega), if_pos hg]; exact rmore2_any A n c q U (HEG.out U hU))
   have H3 : Hid (g = 3 → ∀ U, Below w.heap.size w U → Calls Tryz.prog 36 #[.slice A n c, .int .i64 3] U fun e w' => e = .returned (.string (Ix.body g (entL q n))) ∧ Below U.heap.size U w') := Lib.hid (fun hg U hU => by
    rw [hbe, if_neg (by omega), if_neg (by omega)]; exact rmore3_any A n c q U (HEG.out U hU))
   obtain ⟨T, hT⟩ : ∃ T, T = Ix.body g (entL q n) := ⟨_, rfl⟩
   rw [← hT] at hbz HPUT H1 H2 H3
   have HTL := Lib.hid (fun U => rTail_any T (by unfold maxLen; omega) U)
   have h4 := Crc.four_size (Crc.ofB T)
   have hcat : ¬ 9223372036854775807 < T.size + (Crc.four (Crc.ofB T)).size := by omega
   generalize Crc.four (Crc.ofB T) = C4 at *
   clear h hput hv hT hbe hgood hnl HEG h4
   go_enter Tryz.func12, Tryz.ntmps12
   go_wp2_with fail
   refine HV.out.mono ?_; rintro e w1 ⟨rfl, hb1⟩
   have HB1 := Lib.hid hb1
   clear hb1 HV
   rcases (show g = 1 ∨ g = 2 ∨ g = 3 by omega) with rfl | rfl | rfl
   · have HC := Lib.hid (H1.out rfl w1 HB1.out)
     clear H1 H2 H3 hg3
     go_wp2_with fail
     refine HC.out.mono ?_; rintro e w2 ⟨rfl, hb2⟩
     have HB2 := Lib.hid (below_step HB1.out hb2)
     clear hb2 HC HB1
     go_wp2_with fail
     refine (HTL.out _).mono ?_; rintro e w3 ⟨rfl, hb3⟩
     have HB3 := Lib.hid (below_step HB2.out hb3)
     clear hb3 HB2 HTL
     go_wp2_with fail
     go_ret2
     rw [HPUT.out]
     exact ⟨rfl, HB3.out⟩
   · have HC := Lib.hid (H2.out rfl w1 HB1.out)
     clear H1 H2 H3 hg3
     go_wp2_with fail
     refine HC.out.mono ?_; rintro e w2 ⟨rfl, hb2⟩
     have HB2 := Lib.hid (below_step HB1.out hb2)
     clear hb2 HC HB1
     go_wp2_with fail
     refine (HTL.out _).mono ?_; rintro e w3 ⟨rfl, hb3⟩
     have HB3 := Lib.hid (below_step HB2.out hb3)
     clear hb3 HB2 HTL
     go_wp2_with fail
     go_ret2
     rw [HPUT.out]
     exact ⟨rfl, HB3.out⟩
   · have HC := Lib.hid (H3.out rfl w1 HB1.out)
     clear H1 H2 H3 hg3
     go_wp2_with fail
     refine HC.out.mono ?_; rintro e w2 ⟨rfl, hb2⟩
     have HB2 := Lib.hid (below_step HB1.out hb2)
     clear hb2 HC HB1
     go_wp2_with fail
     refine (HTL.out _).mono ?_; rintro e w3 ⟨rfl, hb3⟩
     have HB3 := Lib.hid (below_step HB2.out hb3)
     clear hb3 HB2 HTL
     go_wp2_with fail
     go_ret2
     rw [HPUT.out]
     exact ⟨rfl, HB3.out⟩
 · have hput := Ix.put_no hv
   have HPUT := Lib.hid hput
   have d1 : (Ix.valid (entL q n) g != 0) = true := bne_iff_ne.2 hv
   have d1b : (Ix.valid (entL q n) g == 0) = false := beq_eq_false_iff_ne.2 hv
   clear h hput hv
   generalize Ix.valid (entL q n) g = er at *
   go_enter Tryz.func12, Tryz.ntmps12
   go_wp2_with fail
   refine HV.out.mono ?_; rintro e w1 ⟨rfl, hb1⟩
   have HB1 := Lib.hid hb1
   clear hb1 HV
   go_wp2_with fail
   go_ret2
   rw [HPUT.out]
   exact ⟨rfl, HB1.out⟩
set_option maxRecDepth 100000 in
set_option maxHeartbeats 8000000 in
theorem indexPuts_walk {H : Type} {enc : TypeId × Value → H} {r0 : Reach} {b0 : Nat} {v0 : Value} {d0 : DataW H} {p0 : List MemPlace} {r1 : Reach} {b1 : Nat} {v1 : Value} {d1 : DataW H} {p1 : List MemPlace} (w : World)
 (o0 : Value.okWide Tryz.prog w r0 b0 22 v0) (k0 : DataW.Trod enc Tryz.prog w 0 (fun _ => true) true 22 v0 d0 p0)
 (o1 : Value.okWide Tryz.prog w r1 b1 22 v1) (k1 : DataW.Trod enc Tryz.prog w 0 (fun _ => true) true 22 v1 d1 p1)
 (g : Int) (_wg : (Lit.int .i64 g).wf = true) :
 Calls Tryz.prog 3 #[v0, v1, .int .i64 g] w fun e w' => e = .returned (.bool true) ∧ Below w.heap.size w w' := by
 obtain ⟨A, n, c, q, rfl, hn, -, hA⟩ := open_ents o0 k0
 obtain ⟨B, m, d, p, rfl, hm, -, hB⟩ := open_ents o1 k1
 clear o0 k0 o1 k1
 have HA := Lib.hid hA; have HBB := Lib.hid hB
 have HF := Lib.hid (fun U (hU : Below w.heap.size w U) => few_any A n c hn q U (HA.out.later hU))
 have HF2 := Lib.hid (fun U (hU : Below w.heap.size w U) => few_any B m d hm p U (HBB.out.later hU))
 clear hA hB
 go_enter Tryz.func3, Tryz.ntmps3
 go_wp2_with fail
 refine (works_any _).mono ?_; rintro e w1 ⟨rfl, hb1⟩
 have HB1 := Lib.hid hb1
 clear hb1
 go_wp2_with fail
 refine (HF.out _ HB1.out).mono ?_; rintro e w2 ⟨rfl, hb2⟩
 have HB2 := Lib.hid (below_step HB1.out hb2)
 clear hb2 HB1 HF
 obtain ⟨f1, hf1⟩ : ∃ f1, f1 = fewR q n := ⟨_, rfl⟩
 rw [← hf1]
 have HFW := Lib.hid hf1
 clear hf1
 cases f1 with
 | false =>
  go_wp2_with fail
  go_ret
  exact ⟨rfl, HB2.out⟩
 | true =>
  go_wp2_with fail
  refine (HF2.out _ HB2.out).mono ?_; rintro e w3 ⟨rfl, hb3⟩
  have HB3 := Lib.hid (below_step HB2.out hb3)
  clear hb3 HB2 HF2
  obtain ⟨f2, hf2⟩ : ∃ f2, f2 = fewR p m := ⟨_, rfl⟩
  rw [← hf2]
  have HFV := Lib.hid hf2
  clear hf2
  cases f2 with
  | false =>
   go_wp2_with fail
   go_ret
   exact ⟨rfl, HB3.out⟩
  | true =>
   have HIN := Lib.hid ((HA.out.in_ HFW.out.symm).later HB3.out); have HJN := Lib.hid ((HBB.out.in_ HFV.out.symm).later HB3.out)
   have HP := Lib.hid (Put_any A n c q g w3 HIN.out)
   have HOF := Lib.hid (fun U (hU : Below w3.heap.size w3 U) => Of_any12 A n c q U (HIN.out.later hU))
   have HOG := Lib.hid (fun U (hU : Below w3.heap.size w3 U) => Of_any12 B m d p U (HJN.out.later hU))
   have HRP := Lib.hid (fun U C k (hC : EntsIn U C n q) => rPut12_any C n k q g U hC)
   have HRV := Lib.hid (fun U C k (hC : EntsIn U C n q) => rValid12_any C n k q g U hC)
   have HVV := Lib.hid (fun U (hU : Below w3.heap.size w3 U) => Valid_any A n c q g U (HIN.out.later hU))
   have HSA := Lib.hid (fun U (hU : Below w3.heap.size w3 U) => ISame_any A B n m c d q p U (HIN.out.later hU) (HJN.out.later hU))
   have HRS := Lib.hid (fun U C k D j (hC : EntsIn U C n q) (hD : EntsIn U D m p) => rSame12_any C D n m k j q p U hC hD)
   clear HA HBB HFW HFV
   generalize Ix.put g (entL q n) = pt at *
   generalize Ix.valid (entL q n) g = er at *
   obtain ⟨t, e1⟩ := pt
   simp only at HP HRP
   go_wp2_with fail
   refine HP.out.mono ?_; rintro e w4 ⟨rfl, hb4⟩
   have HB4 := Lib.hid hb4
   clear hb4 HP
   go_wp2_with fail
   refine (HOF.out w4 HB4.out).mono ?_; rintro e w5 ⟨C5, k5, rfl, hi5, hb5⟩
   have HC := Lib.hid (HRP.out w5 C5 k5 hi5)
   have HB5 := Lib.hid (below_step HB4.out hb5)
   clear hi5 hb5 HB4 HRP
   go_wp2_with fail
   refine HC.out.mono ?_; rintro e w6 ⟨rfl, hb6⟩
   have HB6 := Lib.hid (below_step HB5.out hb6)
   clear hb6 HC HB5
   go_wp2_with fail
   refine (HOF.out w6 HB6.out).mono ?_; rintro e w7 ⟨C7, k7, rfl, hi7, hb7⟩
   have HC := Lib.hid (HRV.out w7 C7 k7 hi7)
   have HB7 := Lib.hid (below_step HB6.out hb7)
   clear hi7 hb7 HB6 HRV
   go_wp2_with fail
   refine HC.out.mono ?_; rintro e w8 ⟨rfl, hb8⟩
   have HB8 := Lib.hid (below_step HB7.out hb8)
   clear hb8 HC HB7
   have HO1 := Lib.hid (HOF.out w8 HB8.out)
   have HVU := Lib.hid (fun U (hU : Below w8.heap.size w8 U) => HVV.out U (below_step HB8.out hU))
   have HSU := Lib.hid (fun U (hU : Below w8.heap.size w8 U) => HSA.out U (below_step HB8.out hU))
   clear HVV HSA
   go_wp2_with fail
   refine HO1.out.mono ?_; rintro e w9 ⟨C9, k9, rfl, hi9, hb9⟩
   have HB9 := Lib.hid (below_step HB8.out hb9)
   have HI9 := Lib.hid hi9; have HB89 := Lib.hid hb9
   clear hi9 hb9 HO1 HOF
   go_wp2_with fail
   refine (HOG.out w9 HB9.out).mono ?_; rintro e w10 ⟨D10, k10, rfl, hi10, hb10⟩
   have HC := Lib.hid (HRS.out w10 C9 k9 D10 k10 (HI9.out.later hb10) hi10)
   have HB10 := Lib.hid (below_step HB9.out hb10); have HB810 := Lib.hid (below_step HB89.out hb10)
   clear hi10 hb10 HOG HRS HI9 HB89 HB9
   go_wp2_with fail
   refine HC.out.mono ?_; rintro e w11 ⟨r1, rfl, hr1, hb11⟩
   have HR1 := Lib.hid hr1
   have HB11 := Lib.hid (below_step HB10.out hb11); have HB811 := Lib.hid (below_step HB810.out hb11)
   have HCV := Lib.hid (HVU.out w11 HB811.out)
   clear hr1 hb11 HC HVU HB10 HB810
   have b0 : (t.toList == t.toList) = true := beq_self_eq_true _
   have b1 : (er == er) = true := beq_self_eq_true _
   have b2 : (e1 == e1) = true := beq_self_eq_true _
   go_wp2_with fail
   refine HCV.out.mono ?_; rintro e w12 ⟨rfl, hb12⟩
   have HB12 := Lib.hid (below_step HB11.out hb12)
   have HCS := Lib.hid (HSU.out w12 (below_step HB811.out hb12))
   clear hb12 HCV HSU HB11 HB811
   go_wp2_with fail
   refine HCS.out.mono ?_; rintro e w13 ⟨r2, rfl, hr2, hb13⟩
   have HB13 := Lib.hid (HB3.out.trans ((below_step HB12.out hb13).mono HB3.out.size))
   have hrr : r2 = r1 := by rw [Bool.eq_iff_iff, hr2, HR1.out]
   clear hb13 HCS HB12 hr2 HR1
   subst hrr
   have b3 : (r2 == r2) = true := beq_self_eq_true _
   go_wp2_with fail
   go_ret
   exact ⟨rfl, HB13.out⟩
end Go.Proofs.YtliobahnekohmaaGreat
