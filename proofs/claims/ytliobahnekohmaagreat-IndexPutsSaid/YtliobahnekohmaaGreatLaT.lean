/-
  Labels: what the references come to: Same, Ahead, Key.
-/
import Derived.Test.YtliobahnekohmaaGreatLaR
import Derived.Test.YtliobahnekohmaaGreatNumO
import Derived.Test.YtliobahnekohmaaGreatRegT
namespace Go.Proofs.YtliobahnekohmaaGreat
open Go.RowKit
set_option maxRecDepth 100000 in
set_option maxHeartbeats 1000000 in
theorem rSame_any (A B : Option Addr) (n m c d : Nat) (hn : n ≤ maxLen) (f g : Nat → Lab) (w : World) (hA : LabRow w A n f) (hB : LabRow w B m g) :
 Calls Tryz.prog 43 #[.slice A n c, .slice B m d] w fun e w' => e = .returned (.bool (decide (n = m) && La.same f g n)) ∧ Below w.heap.size w w' := by
 unfold maxLen at hn
 have HA := Lib.hid hA; have HB := Lib.hid hB; clear hA hB
 by_cases hnm : n = m
 · subst hnm
   rw [decide_eq_true rfl, Bool.true_and]
   generalize hr : La.same f g n = r
   have HR := Lib.hid hr; clear hr
   go_enter Tryz.func43, Tryz.ntmps43
   go_wp2_with fail
   go_loopw [5] (fun i wr => ∃ k : Nat, k ≤ n ∧ i = .int .i64 k ∧ La.same f g k = true ∧ Below w.heap.size w wr) (fun i _ => n - (intOf i).toNat)
   case atStart => exact ⟨0, by omega, rfl, rfl, Below.refl _ _⟩
   case round =>
    obtain ⟨k, hk, rfl, hs, hb⟩ := hrel
    have HBL := Lib.hid hb; have HS := Lib.hid hs; clear hb hs
    by_cases hlt : k < n
    · obtain ⟨ad, rfl, c0, c1⟩ := HA.out.at_ HBL.out hlt
      obtain ⟨bd, rfl, e0, e1⟩ := HB.out.at_ HBL.out hlt
      have i1 : (k : Int) < (n : Int) := by omega
      have i0 : (0 : Int) ≤ (k : Int) := by omega
      generalize hfk : f k = fk at *
      generalize hgk : g k = gk at *
      obtain ⟨x, y⟩ := fk
      obtain ⟨z, u⟩ := gk
      have HF := Lib.hid hfk; have HGk := Lib.hid hgk; clear hfk hgk
      have hel := fun W => run_equal_lab W x y z u
      have heg : Tryz.prog.eqGuardType Tryz.prog.depth 37 = false := by kernel_rfl
      have hb1 := str_beq x z
      have hb2 := str_beq y u
      by_cases q1 : x = z
      · have r1 : (x.toList == z.toList) = true := by rw [hb1]; simpa using q1
        by_cases q2 : y = u
        · have r2 : (y.toList == u.toList) = true := by rw [hb2]; simpa using q2
          clear hb1 hb2
          have Q1 := Lib.hid q1; have Q2 := Lib.hid q2; clear q1 q2
          go_wp2_with fail
          go_quiet (fail)
          go_wp2_with fail
          go_roundw
          case rel =>
           refine ⟨k + 1, by omega, by go_num, ?_, below_drewN HBL.out _⟩
           unfold La.same
           rw [La.range_all_succ]
           have hs := HS.out
           unfold La.same at hs
           rw [hs, HF.out, HGk.out, Q1.out, Q2.out]
           simp
          case measure => simp [intOf]; omega
        · have r2 : (y.toList == u.toList) = false := by rw [hb2]; simpa using q2
          clear hb1 hb2
          have Q1 := Lib.hid q1; have Q2 := Lib.hid q2; clear q1 q2
          go_wp2_with fail
          go_quiet (fail)
          go_wp2_with fail
          go_ret
          refine ⟨?_, below_drewN HBL.out _⟩
          have hno : La.same f g n = false := by
           unfold La.same
           rw [List.all_eq_false]
           exact ⟨k, List.mem_range.2 hlt, by rw [HF.out, HGk.out]; have q := Q2.out; simp [q]⟩
          rw [← HR.out, hno]; rfl
      · have r1 : (x.toList == z.toList) = false := by rw [hb1]; simpa using q1
        clear hb1 hb2
        have Q1 := Lib.hid q1; clear q1
        go_wp2_with fail
        go_quiet (fail)
        go_wp2_with fail
        go_ret
        refine ⟨?_, below_drewN HBL.out _⟩
        have hno : La.same f g n = false := by
         unfold La.same
         rw [List.all_eq_false]
         exact ⟨k, List.mem_range.2 hlt, by rw [HF.out, HGk.out]; have q := Q1.out; simp [q]⟩
        rw [← HR.out, hno]; rfl
    · obtain rfl : k = n := by omega
      go_wp2_with fail
      go_ret
      refine ⟨?_, HBL.out⟩
      rw [← HR.out, HS.out]; rfl
 · rw [decide_eq_false hnm, Bool.false_and]
   have hd : ((n : Int) != (m : Int)) = true := by rw [bne_iff_ne]; omega
   clear hnm
   go_enter Tryz.func43, Tryz.ntmps43
   go_wp2_with fail
   go_ret
   exact ⟨rfl, Below.refl _ _⟩
namespace La
theorem bl_same (x : UInt8) (a b : List UInt8) : Op.bytesLess (x :: a) (x :: b) = Op.bytesLess a b := by
 have e : Op.bytesLess (x :: a) (x :: b) = (decide (x < x) || (x == x && Op.bytesLess a b)) := rfl
 rw [e]; simp
theorem bl_other {x y : UInt8} (h : x ≠ y) (a b : List UInt8) : Op.bytesLess (x :: a) (y :: b) = decide (x.toNat < y.toNat) := by
 have e : Op.bytesLess (x :: a) (y :: b) = (decide (x < y) || (x == y && Op.bytesLess a b)) := rfl
 rw [e]
 have h1 : (x == y) = false := by simpa using h
 rw [h1, Bool.false_and, Bool.or_false]
 exact decide_eq_decide.2 UInt8.lt_iff_toNat_lt
theorem data_drop (s : ByteArray) (k : Nat) (h : k < s.size) : s.data.toList.drop k = s[k] :: s.data.toList.drop (k + 1) := by
 rw [List.drop_eq_getElem_cons (by rw [← Lib.size_eq]; exact h)]; rfl
end La
set_option maxRecDepth 100000 in
set_option maxHeartbeats 1000000 in
theorem rAhead_any (a b : ByteArray) (ha : a.size ≤ maxLen) (hb : b.size ≤ maxLen) (w : World) :
 Calls Tryz.prog 39 #[.string a, .string b] w fun e w' => e = .returned (.bool (La.less a b)) ∧ Below w.heap.size w w' := by
 unfold maxLen at ha hb
 have hr : La.less a b = Op.bytesLess (a.data.toList.drop 0) (b.data.toList.drop 0) := by
  unfold La.less; rw [Lib.toList_data, Lib.toList_data]; rfl
 generalize La.less a b = r at *
 have HR := Lib.hid hr; clear hr
 go_enter Tryz.func39, Tryz.ntmps39
 go_wp2_with fail
 go_loopw [5] (fun i wr => ∃ k : Nat, k ≤ a.size ∧ k ≤ b.size ∧ i = .int .i64 k ∧ r = Op.bytesLess (a.data.toList.drop k) (b.data.toList.drop k) ∧ Below w.heap.size w wr) (fun i _ => a.size - (intOf i).toNat)
 case atStart => exact ⟨0, by omega, by omega, rfl, HR.out, Below.refl _ _⟩
 case round =>
  obtain ⟨k, hk1, hk2, rfl, hs, hbl⟩ := hrel
  have HBL := Lib.hid hbl; clear hbl
  by_cases hgo : k < a.size ∧ k < b.size
  · obtain ⟨h1, h2⟩ := hgo
    rw [La.data_drop a k h1, La.data_drop b k h2] at hs
    have i1 : (k : Int) < (a.size : Int) := by omega
    have i2 : (k : Int) < (b.size : Int) := by omega
    have i0 : (0 : Int) ≤ (k : Int) := by omega
    have d1 : decide ((k : Int) < (a.size : Int)) = true := by simpa using h1
    have d2 : decide ((k : Int) < (b.size : Int)) = true := by simpa using h2
    generalize hx : a[k] = x at *
    generalize hy : b[k] = y at *
    by_cases hxy : x = y
    · subst hxy
      rw [La.bl_same] at hs
      have HS := Lib.hid hs; clear hs
      have q1 : (((x.toNat : Nat) : Int) != ((x.toNat : Nat) : Int)) = false := by simp
      go_wp2_with fail
      go_quiet (fail)
      go_wp2_with fail
      go_roundw
      case rel => exact ⟨k + 1, by omega, by omega, by go_num, HS.out, below_drewN HBL.out _⟩
      case measure => simp [intOf]; omega
    · rw [La.bl_other hxy] at hs
      have q1 : (((x.toNat : Nat) : Int) != ((y.toNat : Nat) : Int)) = true := by
       rw [bne_iff_ne]; intro e; exact hxy (UInt8.toNat_inj.1 (by omega))
      have HS := Lib.hid hs; clear hs hxy
      go_wp2_with fail
      go_quiet (fail)
      go_wp2_with fail
      go_quiet (fail)
      go_wp2_with fail
      go_ret
      refine ⟨?_, below_drewN (below_drewN HBL.out _) _⟩
      rw [HS.out]; rfl
  · have HS := Lib.hid hs; clear hs
    by_cases h1 : k < a.size
    · obtain rfl : k = b.size := by omega
      have d1 : decide (((b.size : Nat) : Int) < (a.size : Int)) = true := by simpa using h1
      have d2 : decide (((b.size : Nat) : Int) < (b.size : Int)) = false := by simp
      have d3 : decide (((a.size : Nat) : Int) < (b.size : Int)) = false := by simp; omega
      go_wp2_with fail
      go_ret
      refine ⟨?_, HBL.out⟩
      have d4 : decide (a.size < b.size) = false := by simp; omega
      rw [HS.out, (List.drop_eq_nil_of_le (by rw [← Lib.size_eq]; exact Nat.le_refl _) : b.data.toList.drop b.size = []), La.bl_nil, ← d4]; rfl
    · obtain rfl : k = a.size := by omega
      have d1 : decide (((a.size : Nat) : Int) < (a.size : Int)) = false := by simp
      by_cases h2 : a.size < b.size
      · have d3 : decide (((a.size : Nat) : Int) < (b.size : Int)) = true := by simp; omega
        go_wp2_with fail
        go_ret
        refine ⟨?_, HBL.out⟩
        rw [HS.out, (List.drop_eq_nil_of_le (by rw [← Lib.size_eq]; exact Nat.le_refl _) : a.data.toList.drop a.size = []), La.data_drop b _ h2]; rfl
      · have d3 : decide (((a.size : Nat) : Int) < (b.size : Int)) = false := by simp; omega
        go_wp2_with fail
        go_ret
        refine ⟨?_, HBL.out⟩
        rw [HS.out, (List.drop_eq_nil_of_le (by rw [← Lib.size_eq]; omega) : b.data.toList.drop a.size = []), La.bl_nil]; rfl
theorem Only.mk_ {K : Act → World → Prop} {a : Act} {w : World} (h : K a w) : Only K .normal a w := h
theorem sizes_sum (f : Nat → Lab) (k : Nat) : La.keyB f (k + 1) = La.keyB f k ++ (Num.smallB (f k).1.size ++ (f k).1) ++ (Num.smallB (f k).2.size ++ (f k).2) := by
 apply ByteArray.ext; apply Array.toList_inj.1
 rw [Num.app_list, Num.app_list]
 simp [La.keyB, La.key, La.txt]
set_option maxRecDepth 100000 in
set_option maxHeartbeats 1000000 in
theorem rKey_any (A : Option Addr) (n c : Nat) (hn : n ≤ 10) (f : Nat → Lab) (hs : ∀ i, i < n → (f i).1.size ≤ 300 ∧ (f i).2.size ≤ 300) (w : World) (hA : LabRow w A n f) :
 Calls Tryz.prog 40 #[.slice A n c] w fun e w' => e = .returned (.string (La.keyB f n)) ∧ Below w.heap.size w w' := by
 have HA := Lib.hid hA; have HSZ := Lib.hid hs; clear hA hs
 go_enter Tryz.func40, Tryz.ntmps40
 go_wp2_with fail
 go_loopw [3, 4] (fun t i wr => ∃ k : Nat, k ≤ n ∧ i = .int .i64 k ∧ t = .string (La.keyB f k) ∧ Below w.heap.size w wr) (fun _ i _ => n - (intOf i).toNat)
 case atStart => exact ⟨0, by omega, rfl, rfl, Below.refl _ _⟩
 case round =>
  obtain ⟨k, hk, rfl, rfl, hb⟩ := hrel
  have HB := Lib.hid hb; clear hb
  by_cases hlt : k < n
  · obtain ⟨ad, rfl, c0, c1⟩ := HA.out.at_ HB.out hlt
    have hsz := HSZ.out k hlt
    have hkl := La.key_length f k (fun i hi => HSZ.out i (by omega))
    have hks : (La.keyB f k).size ≤ 6200 := by unfold La.keyB; rw [La.size_mk]; omega
    have hst := sizes_sum f k
    have ht1 := Num.small_size (f k).1.size
    have ht2 := Num.small_size (f k).2.size
    have hT1 := rText_any (f k).1 hsz.1
    have hT2 := rText_any (f k).2 hsz.2
    have hz1 : (Num.smallB (f k).1.size ++ (f k).1).size ≤ 310 := by rw [ByteArray.size_append]; omega
    have hz2 : (Num.smallB (f k).2.size ++ (f k).2).size ≤ 310 := by rw [ByteArray.size_append]; omega
    have i1 : (k : Int) < (n : Int) := by omega
    have i0 : (0 : Int) ≤ (k : Int) := by omega
    generalize Num.smallB (f k).1.size ++ (f k).1 = t1 at *
    generalize Num.smallB (f k).2.size ++ (f k).2 = t2 at *
    generalize (f k).1 = x at *
    generalize (f k).2 = y at *
    generalize hkb : La.keyB f k = kb at *
    have z1 : ¬ 9223372036854775807 < kb.size + t1.size := by omega
    have z2 : ¬ 9223372036854775807 < kb.size + t1.size + t2.size := by omega
    have z3 : ¬ 9223372036854775807 < (kb ++ t1).size + t2.size := by rw [ByteArray.size_append]; omega
    have HST := Lib.hid hst; have HT1 := Lib.hid hT1; have HT2 := Lib.hid hT2; clear hst hT1 hT2 hkb hkl
    have hc0 : ∀ U, Below wr.heap.size wr U → U.cell? (ad.add (k * 2)) = some (.string x) := fun U hU => (hU.cell (block_lt_of_cell c0)).trans c0
    have hc1 : ∀ U, Below wr.heap.size wr U → U.cell? ⟨(ad.add (k * 2)).block, (ad.add (k * 2)).off + 1, none⟩ = some (.string y) := fun U hU => (hU.cell (p := ⟨(ad.add (k * 2)).block, (ad.add (k * 2)).off + 1, none⟩) (block_lt_of_cell c1)).trans c1
    have HC0 := Lib.hid hc0; have HC1 := Lib.hid hc1; clear hc0 hc1 c0 c1
    go_wp2_with fail
    refine plain_held (fun U => Below wr.heap.size wr U) (by kernel_rfl) ?_
    have hbd : Below wr.heap.size wr wr.drew := Below.drew (Below.refl _ _)
    generalize wr.drew = wd at *
    have HBD := Lib.hid hbd; clear hbd
    refine wpAnyH_pickQ (by kernel_rfl) Only.panic Only.keepsIn (w := wd) HBD.out [0, 1, 2, 3, 4, 5, 8, 9, 10, 11, 12] 5 _ _ (by kernel_rfl) ?_
    refine PickQ.value (d := some 11) (.string kb) rfl rfl (by kernel_rfl) (fun U hU => (by go_simp)) ?_
    refine PickQ.value (d := some 12) (.slice (some ad) n c) rfl rfl (by kernel_rfl) (fun U hU => (by go_simp)) ?_
    refine PickQ.value (d := some 13) (.int .i64 k) rfl rfl (by kernel_rfl) (fun U hU => (by go_simp)) ?_
    refine PickQ.value (d := some 14) (.pointer (some (ad.add (k * 2)))) rfl rfl (by kernel_rfl) (fun U hU => (by go_simp)) ?_
    refine PickQ.value (d := some 15) (.pointer (some (ad.add (k * 2)))) rfl rfl (by kernel_rfl) (fun U hU => (by go_simp)) ?_
    refine PickQ.value (d := some 16) (.string x) rfl rfl (by kernel_rfl) (fun U hU => (by have := HC0.out U hU; go_simp)) ?_
    refine PickQ.value (d := some 19) (.slice (some ad) n c) rfl rfl (by kernel_rfl) (fun U hU => (by go_simp)) ?_
    refine PickQ.value (d := some 20) (.int .i64 k) rfl rfl (by kernel_rfl) (fun U hU => (by go_simp)) ?_
    refine PickQ.value (d := some 21) (.pointer (some (ad.add (k * 2)))) rfl rfl (by kernel_rfl) (fun U hU => (by go_simp)) ?_
    refine PickQ.value (d := some 22) (.pointer (some ⟨(ad.add (k * 2)).block, (ad.add (k * 2)).off + 1, none⟩)) rfl rfl (by kernel_rfl) (fun U hU => (by go_simp)) ?_
    refine PickQ.value (d := some 23) (.string y) rfl rfl (by kernel_rfl) (fun U hU => (by have := HC1.out U hU; go_simp)) ?_
    simp only [PickQ, Act.put, List.setIfInBounds_toArray]
    refine wpAnyH_one (i := 6) (by kernel_rfl) rfl (by kernel_rfl) ?_
    intro K hK
    unfold Oper.wp
    go_simp
    refine (HT1.out _).mono ?_; rintro e w4 ⟨rfl, hb4⟩
    have HB4 := Lib.hid (below_step HBD.out hb4); clear hb4 HBD
    refine hK _ _ HB4.out (fun _ => ?_)
    clear hK K
    refine wpAnyH_pickQ (by kernel_rfl) Only.panic Only.keepsIn (w := w4) HB4.out [7] 3 _ _ (by kernel_rfl) ?_
    refine PickQ.value (d := some 18) (.string (kb ++ t1)) rfl rfl (by kernel_rfl) (fun U hU => (by go_simp)) ?_
    simp only [PickQ, Act.put, List.setIfInBounds_toArray, List.set_cons_zero, List.set_cons_succ]
    refine wpAnyH_one (i := 13) (by kernel_rfl) rfl (by kernel_rfl) ?_
    intro K hK
    unfold Oper.wp
    go_simp
    refine (HT2.out _).mono ?_; rintro e w5 ⟨rfl, hb5⟩
    have HB5 := Lib.hid (below_step HB4.out hb5); clear hb5 HB4
    refine hK _ _ HB5.out (fun _ => ?_)
    clear hK K
    refine wpAnyH_one (i := 14) (by kernel_rfl) rfl (by kernel_rfl) ?_
    intro K hK
    unfold Oper.wp
    go_simp
    refine hK _ _ HB5.out (fun _ => ?_)
    clear hK K
    refine wpAnyH_one (i := 15) (by kernel_rfl) rfl (by kernel_rfl) ?_
    intro K hK
    unfold Oper.wp
    go_simp
    refine hK _ _ HB5.out (fun _ => ?_)
    clear hK K
    refine wpAnyH_done (by kernel_rfl) ?_ _
    refine Only.mk_ ?_
    go_wp2_with fail
    go_roundw
    case rel => exact ⟨k + 1, by omega, by go_num, by rw [HST.out], below_step HB.out HB5.out⟩
    case measure => simp [intOf]; omega
  · obtain rfl : k = n := by omega
    go_wp2_with fail
    go_ret
    exact ⟨rfl, HB.out⟩
end Go.Proofs.YtliobahnekohmaaGreat
