/-
  What putWide, putSteps and putBits of package chunk come to.
-/
import Derived.Test.YtfgcgjogaaofdaaGreatDoorChT
import Derived.Test.YtfgcgjogaaofdaaGreatDoorStQ
import Derived.Test.YtfgcgjogaaofdaaGreatDoorVaJ
namespace Go.Proofs.YtfgcgjogaaofdaaGreatDoor
open Go.RowKit
theorem IntRow.later {W W2 : World} {A : Option Addr} {n : Nat} {k : IntKind} {f : Nat → Int} (h : IntRow W A n k f) (hb : Below W.heap.size W W2) : IntRow W2 A n k f := fun hn => by
  obtain ⟨ad, e, hlt, hc⟩ := h hn
  refine ⟨ad, e, Nat.lt_of_lt_of_le hlt hb.size, fun i hi => ⟨?_, (hc i hi).2⟩⟩
  have hbl : (ad.add i).block = ad.block := by unfold Addr.add; split <;> rfl
  exact (hb.cell (by rw [hbl]; exact hlt)).trans (hc i hi).1
theorem Ch.u_nat (n : Nat) (h : n ≤ 1000) : IntKind.u64.wrap (n : Int) = (n : Int) := by rw [IntKind.wrap_u64]; omega
set_option maxRecDepth 100000 in
set_option maxHeartbeats 1000000 in
theorem putWide_any (A : Option Addr) (n c : Nat) (hn : n ≤ 1000) (t : Nat → Int) (v : Nat → Nat) (w : World) (hA : Row 2 (sx (Ch.sm t v)) w A n) :
    Calls Tryz.prog 31 #[.slice A n c] w fun e w' => e = .returned (.string (Ch.body1 t v n)) ∧ Below w.heap.size w w' := by
  have HA := Lib.hid hA; clear hA
  have hu := Ch.u_nat n hn
  have s1 := Num.wideB_size n
  have s2 := (Ch.cat_size (Ch.one1 t v) 16 16 (Ch.one1_size t v) n 0).2
  have hb : Num.wideB n ++ Ch.cat (Ch.one1 t v) 0 n = Ch.body1 t v n := rfl
  have HW := Lib.hid (fun W => Wide_any n W)
  have HT := Lib.hid (fun W h => tellW_any A n c hn t v W h)
  generalize Ch.body1 t v n = o at *
  generalize Ch.cat (Ch.one1 t v) 0 n = g at *
  generalize Num.wideB n = a at *
  have HBD := Lib.hid hb; clear hb
  have hsum : ¬ 9223372036854775807 < a.size + g.size := by omega
  go_enter Tryz.func31, Tryz.ntmps31
  go_wp2_with fail
  refine (HW.out _).mono ?_; rintro e w1 ⟨rfl, hb1⟩
  have HB1 := Lib.hid hb1; clear hb1
  go_wp2_with fail
  refine (HT.out _ (HA.out.later HB1.out)).mono ?_; rintro e w2 ⟨rfl, hb2⟩
  have HB2 := Lib.hid (below_step HB1.out hb2); clear hb2
  go_wp2_with fail
  go_ret
  exact ⟨by rw [HBD.out]; rfl, HB2.out⟩
set_option maxRecDepth 100000 in
set_option maxHeartbeats 1000000 in
theorem putSteps_any (A : Option Addr) (n c : Nat) (hn : n ≤ 1000) (t : Nat → Int) (v : Nat → Nat) (w : World) (hA : Row 2 (sx (Ch.sm t v)) w A n) :
    Calls Tryz.prog 33 #[.slice A n c] w fun e w' => e = .returned (.string (Ch.body2 t v n)) ∧ Below w.heap.size w w' := by
  have HA := Lib.hid hA; clear hA
  have hu := Ch.u_nat n hn
  have s1 := Fr.small_le n
  have s2 := (Ch.cat_size (Ch.one2 t v) 9 18 (Ch.one2_size t v) n 0).2
  have hb : Num.smallB n ++ Ch.cat (Ch.one2 t v) 0 n = Ch.body2 t v n := rfl
  have HW := Lib.hid (fun W => Small_any n (Lib.hid (by omega)) W)
  have HT := Lib.hid (fun W h tb hl hx => tellS_any A n c hn t v w HA.out W h tb hl hx)
  generalize Ch.body2 t v n = o at *
  generalize Ch.cat (Ch.one2 t v) 0 n = g at *
  generalize Num.smallB n = a at *
  have HBD := Lib.hid hb; clear hb
  have hsum : ¬ 9223372036854775807 < a.size + g.size := by omega
  have HX : Hid (RowIs (w.alloc (.cells #[.int .i64 0] 2)) w.heap.size (.cells #[.int .i64 0] 2)) := Lib.hid (RowIs.one _ _)
  have HB0 : Hid (Below w.heap.size w (w.alloc (.cells #[.int .i64 0] 2))) := Lib.hid ((Below.refl _ _).alloc (Nat.le_refl _) _)
  go_enter Tryz.func33, Tryz.ntmps33
  go_wp2_with fail
  refine (HW.out _).mono ?_; rintro e w1 ⟨rfl, hb1⟩
  have HB1 := Lib.hid (below_step HB0.out hb1); have HX1 := Lib.hid (HX.out.keep hb1); clear hb1
  go_wp2_with fail
  refine (HT.out _ HB1.out _ (Nat.le_refl _) HX1.out).mono ?_; rintro e w2 ⟨rfl, hb2⟩
  have HB2 := Lib.hid hb2; clear hb2
  go_wp2_with fail
  go_ret
  exact ⟨by rw [HBD.out]; rfl, HB2.out⟩
theorem intVals_snoc (t : Nat → Int) (k : Nat) : intVals ((List.range (k + 1)).map t) = intVals ((List.range k).map t) ++ [.int .i64 (t k)] := by simp [intVals, List.range_succ]
theorem natVals_snoc (v : Nat → Nat) (k : Nat) : natVals ((List.range (k + 1)).map v) = natVals ((List.range k).map v) ++ [.int .u64 (v k : Int)] := by simp [natVals, List.range_succ]
set_option maxRecDepth 100000 in
set_option maxHeartbeats 2000000 in
theorem putBits_any (A : Option Addr) (n c : Nat) (hn : n ≤ 1000) (t : Nat → Int) (v : Nat → Nat) (w : World) (hA : Row 2 (sx (Ch.sm t v)) w A n) (ht : ∀ i, i < n → St.inR (t i)) (hv : ∀ i, i < n → v i < 18446744073709551616) (hC : ClsOk w) (hT : TabOk w) :
    Calls Tryz.prog 35 #[.slice A n c] w fun e w' => e = .returned (.string (Ch.body3 t v n)) ∧ Below w.heap.size w w' := by
  have HA := Lib.hid hA; have HC := Lib.hid hC; have HT := Lib.hid hT; have HIN := Lib.hid ht; have HIV := Lib.hid hv; clear hA hC hT ht hv
  obtain ⟨i0, hi, hz0, hz1, hz2⟩ := info_parts Tryz.info_i64
  obtain ⟨j0, hj, hy0, hy1, hy2⟩ := info_parts Tryz.info_u64
  go_enter Tryz.func35, Tryz.ntmps35
  go_wp2_with fail
  go_loopw [3, 4, 9] (fun ts vs i wr => ∃ (k : Nat) (A1 : Option Addr) (c1 : Nat) (A2 : Option Addr) (c2 : Nat), k ≤ n ∧ ts = .slice A1 k c1 ∧ vs = .slice A2 k c2 ∧ i = .int .i64 k ∧
    wr.ownsRow w.heap.size 2 1 (.slice A1 k c1) k (intVals ((List.range k).map t)) ∧ wr.ownsRow w.heap.size 28 1 (.slice A2 k c2) k (natVals ((List.range k).map v)) ∧ Below w.heap.size w wr) (fun _ _ i _ => n - (intOf i).toNat)
  case atStart => exact ⟨0, none, 0, none, 0, by omega, rfl, rfl, rfl, World.ownsRow_nil _ _ _ _, World.ownsRow_nil _ _ _ _, Below.refl _ _⟩
  case round =>
    obtain ⟨k, A1, c1, A2, c2, hk, rfl, rfl, rfl, ho1, ho2, hb⟩ := hrel
    have HO1 := Lib.hid ho1; have HO2 := Lib.hid ho2; have HB := Lib.hid hb; clear ho1 ho2 hb
    by_cases hlt : k < n
    · obtain ⟨ad, rfl, e0, e1⟩ := HA.out.at_ HB.out hlt
      have x0 : wr.cell? (ad.add (k * 2)) = some (.int .i64 (t k)) := e0 (by omega)
      have x1 : wr.cell? ⟨(ad.add (k * 2)).block, (ad.add (k * 2)).off + 1, none⟩ = some (.int .u64 (v k : Int)) := e1 1 (by omega) (by omega)
      have i1 : (k : Int) < (n : Int) := by omega
      have i2 : (0 : Int) ≤ (k : Int) := by omega
      have hn1 := intVals_snoc t k
      have hn2 := natVals_snoc v k
      have HN1 := Lib.hid hn1; have HN2 := Lib.hid hn2
      clear e0 e1 hn1 hn2
      generalize t k = tk at *
      generalize v k = vk at *
      have HX : Hid (RowIs (wr.alloc (.cells #[.int .i64 tk, .int .u64 (vk : Int)] 30)) wr.heap.size (.cells #[.int .i64 tk, .int .u64 (vk : Int)] 30)) := Lib.hid (RowIs.one _ _)
      have HBX := Lib.hid (HB.out.alloc HB.out.size (.cells #[.int .i64 tk, .int .u64 (vk : Int)] 30))
      have HP1 := Lib.hid (HO1.out.alloc (.cells #[.int .i64 tk, .int .u64 (vk : Int)] 30))
      have HP2 := Lib.hid (HO2.out.alloc (.cells #[.int .i64 tk, .int .u64 (vk : Int)] 30))
      go_upto_region 6 with fail
      generalize wr.alloc (.cells #[.int .i64 tk, .int .u64 (vk : Int)] 30) = wx at *
      generalize wr.heap.size = xb at *
      have q0 := cell_of_row _ _ 0 _ _ _ HX.out
      simp at q0
      have hbs := HBX.out.size
      have hown1 := HP1.out; have hown2 := HP2.out
      clear x0 x1 HO1 HO2
      have hHX : (wx.alloc (.cells #[.int .i64 tk] 2)).heap[xb]? = some (.cells #[.int .i64 tk, .int .u64 (vk : Int)] 30 (0, 0)) := HX.out.keep ((Below.refl _ wx).alloc (Nat.le_refl _) _)
      have hk1 : ∀ w6, (wx.alloc (.cells #[.int .i64 tk] 2)).grownBy w6 (Value.slice A1 k c1).ownBlock → w6.cell? ⟨xb, 1, none⟩ = some (.int .u64 (vk : Int)) := fun w6 hg6 =>
        cell_of_row _ _ 1 _ _ _ ((hg6.block xb (Array.getElem?_eq_some_iff.1 hHX).1 (fun e => own_block_ne (hown1.alloc _) hHX (by decide) e.symm)).trans hHX)
      have hk2 : ∀ w6, (wx.alloc (.cells #[.int .i64 tk] 2)).grownBy w6 (Value.slice A1 k c1).ownBlock → w6.ownsRow w.heap.size 28 1 (.slice A2 k c2) k (natVals ((List.range k).map v)) := fun w6 hg6 =>
        (hown2.alloc (.cells #[.int .i64 tk] 2)).kept hg6 (own_two_ne (hown2.alloc (.cells #[.int .i64 tk] 2)) (hown1.alloc (.cells #[.int .i64 tk] 2)) (by decide))
      go_wp2_with (at_builtin; first
        | (refine wpList_append_own _ rfl _ _ 45 rfl w.heap.size 2 i0 (.int .i64 0) 1 8 Tryz.underlying45 hi hz0 hz1 hz2 rfl (by decide) _ _ _ rfl (hown1.alloc _) ⟨wx.heap.size, 0, none⟩ 1 1 [.int .i64 tk] rfl rfl (cell_one_new _ _ _) (by simp [Value.oneCell']) (by unfold maxLen; omega) (by omega) (by simp; omega) ?_; intro v6 w6 hown6 hg6 _; obtain ⟨A6, c6, rfl⟩ := own_form hown6; have q1 := hk1 _ hg6; have hp2 := hk2 _ hg6; have hz6 := hg6.size)
        | (go_must (refine wpList_append_own _ rfl _ _ 46 rfl w.heap.size 28 j0 (.int .u64 0) 1 8 Tryz.underlying46 hj hy0 hy1 hy2 rfl (by decide) _ _ _ rfl (hp2.alloc _) ⟨w6.heap.size, 0, none⟩ 1 1 [.int .u64 (vk : Int)] rfl rfl (cell_one_new _ _ _) (by simp [Value.oneCell']) (by unfold maxLen; omega) (by omega) (by simp at hz6 ⊢; omega) ?_); intro v8 w8 hown8 hg8 _; obtain ⟨A8, c8, rfl⟩ := own_form hown8))
      have hlow1 := fun r hr => ((hown1.alloc (.cells #[.int .i64 tk] 2)).lt r hr).1
      have hb6 := (HBX.out.alloc hbs (.cells #[.int .i64 tk] 2)).grown hg6 (by simp; omega) hlow1
      have hlow2 := fun r hr => ((hp2.alloc (.cells #[.int .u64 (vk : Int)] 28)).lt r hr).1
      have hb8 := (hb6.alloc hb6.size (.cells #[.int .u64 (vk : Int)] 28)).grown hg8 (by have := hb6.size; simp; omega) hlow2
      go_roundw
      case rel =>
        refine ⟨k + 1, A6, c6, A8, c8, by omega, rfl, rfl, by go_num, ?_, ?_, hb8⟩
        · rw [HN1.out]
          exact (hown6.alloc _).kept hg8 (own_two_ne (hown6.alloc (.cells #[.int .u64 (vk : Int)] 28)) (hp2.alloc (.cells #[.int .u64 (vk : Int)] 28)) (by decide))
        · rw [HN2.out]
          exact hown8
      case measure => simp [intOf]; omega
    · obtain rfl : k = n := by omega
      have i1 : ¬ (k : Int) < (k : Int) := by omega
      have hu := Ch.u_nat k hn
      have hr1 := own_intRow HO1.out (by simp) (fun x hx => by
        obtain ⟨i, hi, rfl⟩ := List.mem_map.1 hx
        exact HIN.out i (List.mem_range.1 hi))
      have hr2 := own_natRow HO2.out (by simp) (fun x hx => by
        obtain ⟨i, hi, rfl⟩ := List.mem_map.1 hx
        exact HIV.out i (List.mem_range.1 hi))
      have hg1 : St.bits (fun i => ((List.range k).map t).getD i 0) k = St.bits t k := (St.after_congr k (fun i hi => by simp [List.getD, hi])).2
      have hg2 : Va.bits (fun i => ((List.range k).map v).getD i 0) k = Va.bits v k := (Va.after_congr k (fun i hi => by simp [List.getD, hi])).2
      have HR1 := Lib.hid hr1; have HR2 := Lib.hid hr2
      have hst := fun W hc h => stAll_any W hc A1 k c1 (fun i => ((List.range k).map t).getD i 0) hn h
      have hva := fun W hc h => vAll_any W hc A2 k c2 (fun i => ((List.range k).map v).getD i 0) hn h
      have hst2 := fun W hc (hb : Below wr.heap.size wr W) => hst W hc (IntRow.later HR1.out hb)
      have hva2 := fun W hc (hb : Below wr.heap.size wr W) => hva W hc (IntRow.later HR2.out hb)
      rw [hg1] at hst2; rw [hg2] at hva2
      have z1 := Ch.text3_size t k
      have z2 := Ch.textV_size v k
      have hbd : (Num.smallB k ++ Fr.txt (Bit.text (St.bits t k))) ++ Fr.txt (Bit.text (Va.bits v k)) = Ch.body3 t v k := rfl
      have HSM := Lib.hid (fun W => Small_any k (Lib.hid (by omega)) W)
      have z0 := Fr.small_le k
      generalize Bit.text (St.bits t k) = b1 at *
      generalize Bit.text (Va.bits v k) = b2 at *
      have hx1 := fun W => TextW_any b1 (by omega) W
      have hx2 := fun W => TextW_any b2 (by omega) W
      have z3 : (Fr.txt b1).size ≤ 10 + 9 * k := by rw [Fr.txt_size]; have := Fr.small_le b1.size; omega
      have z4 : (Fr.txt b2).size ≤ 10 + 10 * k := by rw [Fr.txt_size]; have := Fr.small_le b2.size; omega
      generalize Fr.txt b1 = t1 at *
      generalize Fr.txt b2 = t2 at *
      generalize Num.smallB k = sk at *
      have z5 : (sk ++ t1).size = sk.size + t1.size := ByteArray.size_append ..
      have hs1 : ¬ 9223372036854775807 < sk.size + t1.size := by omega
      have hs2 : ¬ 9223372036854775807 < (sk ++ t1).size + t2.size := by omega
      have HST := Lib.hid hst2; have HVA := Lib.hid hva2; have HX1 := Lib.hid hx1; have HX2 := Lib.hid hx2; have HBD := Lib.hid hbd
      have HC0 : Hid (ClsOk wr) := Lib.hid (HC.out.later HB.out)
      have HT0 : Hid (TabOk wr) := Lib.hid (HT.out.later HB.out)
      clear hr1 hr2 hst hva hst2 hva2 hx1 hx2 hbd hg1 hg2 z0 z1 z2 z3 z4 HR1 HR2 HO1 HO2
      go_wp2_with fail
      refine (HSM.out _).mono ?_; rintro e w1 ⟨rfl, hb1⟩
      have HB1 := Lib.hid hb1; clear hb1
      go_wp2_with fail
      refine (HST.out _ (HC0.out.later HB1.out) HB1.out).mono ?_; rintro e w2 ⟨rfl, hb2⟩
      have HB2 := Lib.hid (below_step HB1.out hb2); clear hb2
      go_wp2_with fail
      refine (HX1.out _).mono ?_; rintro e w3 ⟨rfl, hb3⟩
      have HB3 := Lib.hid (below_step HB2.out hb3); clear hb3
      go_wp2_with fail
      refine (HVA.out _ (HT0.out.later HB3.out) HB3.out).mono ?_; rintro e w4 ⟨rfl, hb4⟩
      have HB4 := Lib.hid (below_step HB3.out hb4); clear hb4
      go_wp2_with fail
      refine (HX2.out _).mono ?_; rintro e w5 ⟨rfl, hb5⟩
      have HB5 := Lib.hid (below_step HB4.out hb5); clear hb5
      go_wp2_with fail
      go_ret
      exact ⟨by rw [HBD.out]; rfl, HB.out.trans (HB5.out.mono HB.out.size)⟩
end Go.Proofs.YtfgcgjogaaofdaaGreatDoor
