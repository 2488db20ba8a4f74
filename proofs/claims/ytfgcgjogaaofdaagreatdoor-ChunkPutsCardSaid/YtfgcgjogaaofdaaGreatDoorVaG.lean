/-
  What read of package value comes to.
-/
import Derived.Test.YtfgcgjogaaofdaaGreatDoorVaE
namespace Go.Proofs.YtfgcgjogaaofdaaGreatDoor
open Go.RowKit
namespace Va
theorem S.got_z {s : S} (hn : s.n = 0) (L : List Bool) : s.got L = if L.length < 64 then none else some (Bit.val (L.take 64)) := by unfold S.got; rw [if_pos hn]
theorem S.got_e {s : S} (hn : s.n ≠ 0) : s.got [] = none := by unfold S.got; rw [if_neg hn]
theorem S.got_f {s : S} (hn : s.n ≠ 0) (R : List Bool) : s.got (false :: R) = some s.v := by unfold S.got; rw [if_neg hn]
theorem S.got_te {s : S} (hn : s.n ≠ 0) : s.got [true] = none := by unfold S.got; rw [if_neg hn]
theorem S.got_in {s : S} (hn : s.n ≠ 0) (R : List Bool) : s.got (true :: false :: R) = if s.l = 64 then none else if R.length < s.win then none else
        if way s (Bit.val (R.take s.win) * 2 ^ s.t) = 2 then some (Bit.val (R.take s.win) * 2 ^ s.t ^^^ s.v) else none := by unfold S.got; rw [if_neg hn]
theorem S.got_fr {s : S} (hn : s.n ≠ 0) (R : List Bool) : s.got (true :: true :: R) = if R.length < 12 then none else
        if 63 < Bit.val (R.take 6) + Bit.val ((R.drop 6).take 6) then none else
        if R.length < 12 + (Bit.val ((R.drop 6).take 6) + 1) then none else
        if lead (Bit.val ((R.drop 12).take (Bit.val ((R.drop 6).take 6) + 1)) * 2 ^ (63 - Bit.val (R.take 6) - Bit.val ((R.drop 6).take 6))) = Bit.val (R.take 6) ∧
            trail (Bit.val ((R.drop 12).take (Bit.val ((R.drop 6).take 6) + 1)) * 2 ^ (63 - Bit.val (R.take 6) - Bit.val ((R.drop 6).take 6))) = 63 - Bit.val (R.take 6) - Bit.val ((R.drop 6).take 6) ∧
            way s (Bit.val ((R.drop 12).take (Bit.val ((R.drop 6).take 6) + 1)) * 2 ^ (63 - Bit.val (R.take 6) - Bit.val ((R.drop 6).take 6))) = 3
        then some (Bit.val ((R.drop 12).take (Bit.val ((R.drop 6).take 6) + 1)) * 2 ^ (63 - Bit.val (R.take 6) - Bit.val ((R.drop 6).take 6)) ^^^ s.v) else none := by unfold S.got; rw [if_neg hn]
theorem S.cost_way {s : S} {x : Nat} : s.cost (x ^^^ s.v) = if way s x = 0 then 64 else if way s x = 1 then 1 else if way s x = 2 then 2 + s.win else 14 + (s.next (x ^^^ s.v)).win := by
  unfold S.cost; rw [xor_back]
theorem S.cost_fresh {s : S} {x : Nat} (h : way s x = 3) : s.cost (x ^^^ s.v) = 14 + (64 - lead x - trail x) := by
  rw [S.cost_way, if_neg (by omega), if_neg (by omega), if_neg (by omega)]
  unfold S.next; rw [xor_back, if_pos h]; rfl
end Va
/-- what is read of bits -/
def VRead (s : Va.S) (b : ByteArray) (q p : Nat) (w : World) (e : Ending) (w' : World) : Prop := ∃ (t : Nat) (o : Bool), e = .returned (.tuple #[.int .u64 t, .bool o]) ∧ Far w w' (OneSet p) ∧
  ((o = true ∧ s.got ((Bit.bits b).drop q) = some t ∧ RdAt w' p b (q + s.cost t)) ∨ (o = false ∧ s.got ((Bit.bits b).drop q) = none ∧ ∃ q2, q2 ≤ 8 * b.size ∧ RdAt w' p b q2))
set_option maxRecDepth 100000 in
set_option maxHeartbeats 8000000 in
theorem vRead1_any (p : Nat) (b : ByteArray) (hb : b.size ≤ 137438953472) (q : Nat) (hq : q ≤ 8 * b.size) (s : Va.S) (hok : s.ok) (w : World) (hT : TabOk w) (hr : RdAt w p b q) :
    Calls Tryz.prog 92 #[.pointer (some ⟨p, 0, none⟩), s.val] w (VRead s b q p w) := by
  have hp1 := hT.not_reader hr
  have hpl : p < w.heap.size := hr.lt
  have hbl : (Bit.bits b).length = 8 * b.size := Bit.bits_length b
  have hal : Below w.heap.size w (w.alloc (.cells #[.int .i64 s.n, .int .u64 s.v, .int .i64 s.l, .int .i64 s.t] 104)) := (Below.refl _ _).alloc (Nat.le_refl _) _
  have hS : VStAt (w.alloc (.cells #[.int .i64 s.n, .int .u64 s.v, .int .i64 s.l, .int .i64 s.t] 104)) w.heap.size s := RowIs.one _ _
  have HR1 := Lib.hid (hr.below hal); have HF1 := Lib.hid (far_of_below hal (OneSet p)); have HS1 := Lib.hid hS; have HT1 : Hid (TabOk _) := Lib.hid (hT.later hal)
  have hvalid := fun W => Valid_any s.n s.v s.l s.t W
  rw [Va.S.valid hok] at hvalid
  have hrway := fun W (h : RdAt W p b q) => readWay_any p b hb q hq s W h
  have hway := fun x hx W h => wayOf_any s hok x hx W h
  have hwin := fun W => inWindow_any s hok W
  have hval : s.val = .agg #[.int .i64 s.n, .int .u64 s.v, .int .i64 s.l, .int .i64 s.t] := rfl
  rw [hval] at hrway hway hwin
  have HVALID := Lib.hid hvalid; have HRWAY := Lib.hid hrway; have HWAY := Lib.hid hway; have HWIN := Lib.hid hwin
  have hsv := hok.v
  have hsw := hok.w
  have HOK := Lib.hid hok
  clear hvalid hrway hway hwin hal hS hT hr hok
  rw [hval]
  have s0 := HS1.out.cells.1; have s1 := HS1.out.cells.2.1; have s2 := HS1.out.cells.2.2.1; have s3 := HS1.out.cells.2.2.2
  go_enter Tryz.func92, Tryz.ntmps92
  go_wp2_with fail
  refine (HVALID.out _).mono ?_; rintro e w2 ⟨rfl, hb2⟩
  have HS2 := Lib.hid (HS1.out.later hb2); have HR2 := Lib.hid (HR1.out.below hb2); have HF2 := Lib.hid (HF1.out.more (far_of_below hb2 _)); have HT2 : Hid (TabOk w2) := Lib.hid (HT1.out.later hb2)
  clear hb2 s0 s1 s2 s3
  have s0 := HS2.out.cells.1; have s1 := HS2.out.cells.2.1; have s2 := HS2.out.cells.2.2.1; have s3 := HS2.out.cells.2.2.2
  go_wp2_with fail
  refine (HRWAY.out _ HR2.out).mono ?_
  rintro e w3 ⟨hf3, ⟨hn, rfl, hr3⟩ | ⟨hn, hL, rfl, hr3⟩ | ⟨hn, hL, rfl, hr3, hq3⟩ | ⟨hn, hL, rfl, hr3, hq3⟩ | ⟨hn, hL, rfl, hr3, hq3⟩ | ⟨hn, hL, rfl, hr3, hq3⟩⟩
  · have HR3 := Lib.hid hr3; have HF3 := Lib.hid (HF2.out.more hf3); have HS3 := Lib.hid (HS2.out.far hf3 (by omega)); have HT3 : Hid (TabOk w3) := Lib.hid (HT2.out.far hf3 hp1)
    have HN := Lib.hid hn
    clear hr3 hf3 s0 s1 s2 s3 hn
    have s0 := HS3.out.cells.1; have s1 := HS3.out.cells.2.1; have s2 := HS3.out.cells.2.2.1; have s3 := HS3.out.cells.2.2.2
    rcases Nat.lt_or_ge (8 * b.size) (q + 64) with hl | hl
    · go_wp2_with fail
      refine (Get_no p b hb q hq 64 _ HR3.out hl).mono ?_; rintro e w4 ⟨rfl, hb4⟩
      have HR4 := Lib.hid (HR3.out.below hb4); have HF4 := Lib.hid (HF3.out.more (far_of_below hb4 _)); clear hb4
      go_wp2_with fail
      go_ret2
      refine ⟨0, false, rfl, HF4.out, .inr ⟨rfl, ?_, q, hq, HR4.out⟩⟩
      rw [Va.S.got_z HN.out, if_pos (by rw [List.length_drop]; omega)]
    · go_wp2_with fail
      refine (Get_yes p b hb q 64 _ HR3.out (by show q + 64 ≤ _; omega)).mono ?_; rintro e w4 ⟨rfl, hr4, hf4⟩
      have HR4 : Hid (RdAt w4 p b (q + 64)) := Lib.hid hr4; have HF4 := Lib.hid (HF3.out.more hf4); clear hr4 hf4
      rw [show Bit.wd 64 = 64 from rfl]
      have hg : s.got ((Bit.bits b).drop q) = some (Bit.val (((Bit.bits b).drop q).take 64)) := by rw [Va.S.got_z HN.out, if_neg (by rw [List.length_drop]; omega)]
      generalize Bit.val (((Bit.bits b).drop q).take 64) = v at *
      have hc : s.cost v = 64 := by unfold Va.S.cost; rw [if_pos (Va.way_zero.2 HN.out)]
      have HG := Lib.hid hg; have HC := Lib.hid hc; clear hg hc
      go_wp2_with fail
      go_ret2
      exact ⟨v, true, rfl, HF4.out, .inl ⟨rfl, HG.out, by rw [HC.out]; exact HR4.out⟩⟩
  · have HR3 := Lib.hid hr3; have HF3 := Lib.hid (HF2.out.more hf3); have HS3 := Lib.hid (HS2.out.far hf3 (by omega)); have HT3 : Hid (TabOk w3) := Lib.hid (HT2.out.far hf3 hp1)
    have HN := Lib.hid hn
    clear hr3 hf3 s0 s1 s2 s3 hn
    have s0 := HS3.out.cells.1; have s1 := HS3.out.cells.2.1; have s2 := HS3.out.cells.2.2.1; have s3 := HS3.out.cells.2.2.2
    have HG : Hid (s.got ((Bit.bits b).drop q) = none) := Lib.hid (by rw [hL]; exact Va.S.got_e HN.out)
    clear hL
    go_wp2_with fail
    go_ret2
    exact ⟨0, false, rfl, HF3.out, .inr ⟨rfl, HG.out, q, hq, HR3.out⟩⟩
  · have HR3 := Lib.hid hr3; have HF3 := Lib.hid (HF2.out.more hf3); have HS3 := Lib.hid (HS2.out.far hf3 (by omega)); have HT3 : Hid (TabOk w3) := Lib.hid (HT2.out.far hf3 hp1)
    have HN := Lib.hid hn
    clear hr3 hf3 s0 s1 s2 s3 hn
    have s0 := HS3.out.cells.1; have s1 := HS3.out.cells.2.1; have s2 := HS3.out.cells.2.2.1; have s3 := HS3.out.cells.2.2.2
    have HG : Hid (s.got ((Bit.bits b).drop q) = some s.v) := Lib.hid (by rw [hL]; exact Va.S.got_f HN.out _)
    have HX : Hid (0 < 18446744073709551616) := Lib.hid (by omega)
    have HW1 : Hid (Va.way s 0 = 1) := Lib.hid (Va.way_one.2 ⟨HN.out, rfl⟩)
    clear hL
    have exor : bits BinOp.xor .u64 (0 : Int) (s.v : Int) = ((0 ^^^ s.v : Nat) : Int) := u64_xor_nat 0 _ HX.out hsv
    have hS : VCells w.heap.size s w3.drew := HS3.out.drew.cells
    have hcall := HWAY.out 0 HX.out w3.drew (fun j hj => HT3.out j hj)
    have HSd : Hid (VStAt w3.drew w.heap.size s) := Lib.hid HS3.out.drew
    have HCALL := Lib.hid hcall; clear hcall
    have hfd : Far w w3.drew (OneSet p) := HF3.out.grownNone (grown_drew (grown_refl w3 none))
    have hrd : RdAt w3.drew p b (q + 1) := HR3.out
    have HFD := Lib.hid hfd; have HRD := Lib.hid hrd; clear hfd hrd
    generalize hkk : Va.way s 0 = kk at *
    have HKK := Lib.hid hkk; clear hkk
    generalize hxv : 0 ^^^ s.v = xv at *
    have HXV := Lib.hid hxv; clear hxv
    go_upto_region 22 with fail
    refine plain_held (VCells w.heap.size s) (by kernel_rfl) ?_
    generalize w3.drew = wd at *
    refine wpAnyH_pick (by kernel_rfl) Only.panic (w := wd) hS [0, 1, 2, 3, 4, 5, 6, 7, 9] 5 _ _ (by kernel_rfl) ?_
    refine PickOk.value (v := .int .u64 0) rfl rfl (by kernel_rfl) (fun U hU => (by go_simp)) ?_
    refine PickOk.value (v := .pointer (some ⟨w.heap.size, 1, none⟩)) rfl rfl (by kernel_rfl) (fun U hU => (by obtain ⟨h0, h1, h2, h3⟩ := hU; go_simp)) ?_
    refine PickOk.value (v := .int .u64 s.v) rfl rfl (by kernel_rfl) (fun U hU => (by obtain ⟨h0, h1, h2, h3⟩ := hU; go_simp)) ?_
    refine PickOk.value (v := .int .u64 xv) rfl rfl (by kernel_rfl) (fun U hU => (by go_simp)) ?_
    refine PickOk.value (v := .bool true) rfl rfl (by kernel_rfl) (fun U hU => (by go_simp)) ?_
    refine PickOk.value (v := .bool true) rfl rfl (by kernel_rfl) (fun U hU => (by go_simp)) ?_
    refine PickOk.value (v := .agg #[.int .i64 s.n, .int .u64 s.v, .int .i64 s.l, .int .i64 s.t]) rfl rfl (by kernel_rfl) (fun U hU => (by obtain ⟨h0, h1, h2, h3⟩ := hU; go_simp)) ?_
    refine PickOk.value (v := .int .u64 0) rfl rfl (by kernel_rfl) (fun U hU => (by go_simp)) ?_
    refine PickOk.value (v := .int .i64 1) rfl rfl (by kernel_rfl) (fun U hU => (by go_simp)) ?_
    simp only [PickOk, Act.put, List.setIfInBounds_toArray]
    clear exor
    refine wpAnyH_one (i := 8) (by kernel_rfl) rfl (by kernel_rfl) ?_
    intro K hK
    unfold Oper.wp
    go_simp
    refine HCALL.out.mono ?_; rintro e we ⟨rfl, hbe⟩
    have hSe : VCells w.heap.size s we := (HSd.out.later hbe).cells
    refine hK _ _ hSe (fun _ => ?_)
    clear hK K
    have HFE := Lib.hid (HFD.out.more (far_of_below hbe _)); have HRE := Lib.hid (HRD.out.below hbe)
    clear hbe
    by_cases hkw : kk = 1
    · have e9 : ((kk : Int) == 1) = true := by simp [hkw]
      have HKW := Lib.hid hkw; clear hkw
      refine wpAnyH_pick (by kernel_rfl) Only.panic (w := we) hSe [10, 11, 12, 13] 0 _ _ (by kernel_rfl) ?_
      refine PickOk.value (d := some 112) (v := .bool true) rfl rfl (by kernel_rfl) (fun U hU => (by go_simp)) ?_
      refine PickOk.value (d := some 113) (v := .bool true) rfl rfl (by kernel_rfl) (fun U hU => (by go_simp)) ?_
      refine PickOk.value (d := some 4) (v := .int .u64 xv) rfl rfl (by kernel_rfl) (fun U hU => (by go_simp)) ?_
      refine PickOk.value (d := some 5) (v := .bool true) rfl rfl (by kernel_rfl) (fun U hU => (by go_simp)) ?_
      simp only [PickOk, Act.put, List.setIfInBounds_toArray]
      refine wpAnyH_done (by kernel_rfl) ?_ _
      refine Only.here ?_
      go_wp2_with fail
      refine bodyPost_ret (v := .tuple #[.int .u64 xv, .bool true]) (by simp [results, go_sem]) rfl ?_
      refine ⟨xv, true, rfl, HFE.out, .inl ⟨rfl, ?_, ?_⟩⟩
      · rw [HG.out, ← HXV.out, Nat.zero_xor]
      · have hw := HKK.out.trans HW1.out; rw [← HXV.out, Va.S.cost_way, hw]; exact HRE.out
    · have e9 : ((kk : Int) == 1) = false := by simp; omega
      have HKW := Lib.hid hkw; clear hkw
      refine wpAnyH_pick (by kernel_rfl) Only.panic (w := we) hSe [10, 11, 12, 13] 0 _ _ (by kernel_rfl) ?_
      refine PickOk.value (d := some 112) (v := .bool false) rfl rfl (by kernel_rfl) (fun U hU => (by go_simp)) ?_
      refine PickOk.value (d := some 113) (v := .bool false) rfl rfl (by kernel_rfl) (fun U hU => (by go_simp)) ?_
      refine PickOk.value (d := some 4) (v := .int .u64 xv) rfl rfl (by kernel_rfl) (fun U hU => (by go_simp)) ?_
      refine PickOk.value (d := some 5) (v := .bool false) rfl rfl (by kernel_rfl) (fun U hU => (by go_simp)) ?_
      simp only [PickOk, Act.put, List.setIfInBounds_toArray]
      refine wpAnyH_done (by kernel_rfl) ?_ _
      refine Only.here ?_
      go_wp2_with fail
      refine bodyPost_ret (v := .tuple #[.int .u64 xv, .bool false]) (by simp [results, go_sem]) rfl ?_
      refine ⟨xv, false, rfl, HFE.out, .inr ⟨rfl, ?_, q + 1, by omega, HRE.out⟩⟩
      exact absurd HW1.out HKW.out
  · have HR3 := Lib.hid hr3; have HF3 := Lib.hid (HF2.out.more hf3); have HS3 := Lib.hid (HS2.out.far hf3 (by omega)); have HT3 : Hid (TabOk w3) := Lib.hid (HT2.out.far hf3 hp1)
    have HN := Lib.hid hn
    clear hr3 hf3 s0 s1 s2 s3 hn
    have s0 := HS3.out.cells.1; have s1 := HS3.out.cells.2.1; have s2 := HS3.out.cells.2.2.1; have s3 := HS3.out.cells.2.2.2
    have HG : Hid (s.got ((Bit.bits b).drop q) = none) := Lib.hid (by rw [hL]; exact Va.S.got_te HN.out)
    clear hL
    go_wp2_with fail
    go_ret2
    exact ⟨0, false, rfl, HF3.out, .inr ⟨rfl, HG.out, q + 1, hq3, HR3.out⟩⟩
  · have HR3 := Lib.hid hr3; have HF3 := Lib.hid (HF2.out.more hf3); have HS3 := Lib.hid (HS2.out.far hf3 (by omega)); have HT3 : Hid (TabOk w3) := Lib.hid (HT2.out.far hf3 hp1)
    have HN := Lib.hid hn
    clear hr3 hf3 s0 s1 s2 s3 hn
    have s0 := HS3.out.cells.1; have s1 := HS3.out.cells.2.1; have s2 := HS3.out.cells.2.2.1; have s3 := HS3.out.cells.2.2.2
    have HG := Lib.hid ((congrArg s.got hL).trans (Va.S.got_in HN.out _))
    clear hL
    by_cases h64 : s.l = 64
    · have e64 : ((s.l : Int) == 64) = true := by simp [h64]
      have HG2 : Hid (s.got ((Bit.bits b).drop q) = none) := Lib.hid (HG.out.trans (if_pos h64))
      clear h64
      go_wp2_with fail
      go_ret2
      exact ⟨0, false, rfl, HF3.out, .inr ⟨rfl, HG2.out, q + 2, hq3, HR3.out⟩⟩
    · have e64 : ((s.l : Int) == 64) = false := by simp; omega
      have HG2 := Lib.hid (HG.out.trans (if_neg h64))
      have hwin : s.l + s.win ≤ 64 ∧ 0 < s.win ∧ 64 - s.l - s.win = s.t := by unfold Va.S.win; omega
      obtain ⟨hw1, hw2, hw3⟩ := hwin
      have hS3 := HS3.out.drew
      have HSd : Hid (VStAt w3.drew w.heap.size s) := Lib.hid hS3
      have hS : VCells w.heap.size s w3.drew := hS3.cells
      have HRd : Hid (RdAt w3.drew p b (q + 2)) := Lib.hid HR3.out
      have HFd : Hid (Far w w3.drew (OneSet p)) := Lib.hid (HF3.out.grownNone (grown_drew (grown_refl w3 none)))
      have HTd : Hid (TabOk w3.drew) := Lib.hid (fun j hj => HT3.out j hj)
      clear hS3
      go_upto_region 14 with fail
      refine plain_held (VCells w.heap.size s) (by kernel_rfl) ?_
      generalize w3.drew = wd at *
      refine wpAnyH_pick (by kernel_rfl) Only.panic (w := wd) hS [0, 1, 2, 3] 7 _ _ (by kernel_rfl) ?_
      refine PickOk.value (v := .pointer (some ⟨p, 0, none⟩)) rfl rfl (by kernel_rfl) (fun U hU => (by go_simp)) ?_
      refine PickOk.value (v := .pointer (some ⟨w.heap.size, 2, none⟩)) rfl rfl (by kernel_rfl) (fun U hU => (by obtain ⟨h0, h1, h2, h3⟩ := hU; go_simp)) ?_
      refine PickOk.value (v := .int .i64 s.l) rfl rfl (by kernel_rfl) (fun U hU => (by obtain ⟨h0, h1, h2, h3⟩ := hU; go_simp)) ?_
      refine PickOk.value (v := .agg #[.int .i64 s.n, .int .u64 s.v, .int .i64 s.l, .int .i64 s.t]) rfl rfl (by kernel_rfl) (fun U hU => (by obtain ⟨h0, h1, h2, h3⟩ := hU; go_simp)) ?_
      simp only [PickOk, Act.put]
      refine wpAnyH_one (i := 4) (by kernel_rfl) rfl (by kernel_rfl) ?_
      intro K hK
      unfold Oper.wp
      go_simp
      refine (HWIN.out _).mono ?_; rintro e w4 ⟨rfl, hb4⟩
      have HS4 := Lib.hid (HSd.out.later hb4); have HR4 := Lib.hid (HRd.out.below hb4); have HF4 := Lib.hid (HFd.out.more (far_of_below hb4 _)); have HT4 : Hid (TabOk w4) := Lib.hid (HTd.out.later hb4)
      refine hK _ _ HS4.out.cells (fun _ => ?_)
      clear hK K hb4 hS
      refine wpAnyH_one (i := 5) (by kernel_rfl) rfl (by kernel_rfl) ?_
      intro K hK
      unfold Oper.wp
      go_simp
      rcases Nat.lt_or_ge (8 * b.size) (q + 2 + s.win) with hl | hl
      · refine (readBits_no p b hb (q + 2) s.l s.win (by omega) hw1 hw2 hq3 hl w4 HR4.out).mono ?_; rintro e w5 ⟨rfl, hb5⟩
        have HG3 : Hid (s.got ((Bit.bits b).drop q) = none) := Lib.hid (HG2.out.trans (if_pos (by rw [List.length_drop]; omega)))
        have HS5 := Lib.hid (HS4.out.later hb5); have HR5 := Lib.hid (HR4.out.below hb5); have HF5 := Lib.hid (HF4.out.more (far_of_below hb5 _))
        refine hK _ _ HS5.out.cells (fun hS5 => ?_)
        clear hK K hb5
        refine wpAnyH_pick (by kernel_rfl) Only.panic (w := w5) hS5 [6, 7, 8, 9, 10] 0 _ _ (by kernel_rfl) ?_
        refine PickOk.value (v := .tuple #[.int .u64 0, .bool false]) rfl rfl (by kernel_rfl) (fun U hU => (by go_simp)) ?_
        refine PickOk.value (v := .int .u64 0) rfl rfl (by kernel_rfl) (fun U hU => (by go_simp)) ?_
        refine PickOk.value (v := .bool false) rfl rfl (by kernel_rfl) (fun U hU => (by go_simp)) ?_
        refine PickOk.value (v := .int .u64 0) rfl rfl (by kernel_rfl) (fun U hU => (by go_simp)) ?_
        refine PickOk.value (v := .bool false) rfl rfl (by kernel_rfl) (fun U hU => (by go_simp)) ?_
        simp only [PickOk, Act.put, List.setIfInBounds_toArray]
        refine wpAnyH_done (by kernel_rfl) ?_ _
        refine Only.here ?_
        clear s0 s1 s2 s3
        have s0 := HS5.out.cells.1; have s1 := HS5.out.cells.2.1; have s2 := HS5.out.cells.2.2.1; have s3 := HS5.out.cells.2.2.2
        have exor : bits BinOp.xor .u64 (0 : Int) (s.v : Int) = ((0 ^^^ s.v : Nat) : Int) := u64_xor_nat 0 _ (by omega) hsv
        go_upto_region 22 with fail
        go_quiet (fail)
        go_wp2_with fail
        go_ret2
        refine ⟨_, false, rfl, HF5.out.grownNone (DrewOf.grown ⟨_, rfl⟩ none), .inr ⟨rfl, ?_, q + 2, by omega, HR5.out⟩⟩
        exact HG3.out
      · refine (readBits_yes p b hb (q + 2) s.l s.win (by omega) hw1 hw2 hl w4 HR4.out).mono ?_; rintro e w5 ⟨rfl, hr5, hf5⟩
        rw [hw3]
        have HG3 := Lib.hid (HG2.out.trans (if_neg (by rw [List.length_drop]; omega)))
        have HX : Hid (Bit.val (((Bit.bits b).drop (q + 2)).take s.win) * 2 ^ s.t < 18446744073709551616) := Lib.hid (Va.mul_lt (Bit.val_take_lt _ _) (by omega))
        generalize Bit.val (((Bit.bits b).drop (q + 2)).take s.win) * 2 ^ s.t = x at *
        have HS5 := Lib.hid (HS4.out.far hf5 (by omega)); have HR5 := Lib.hid hr5; have HF5 := Lib.hid (HF4.out.more hf5); have HT5 : Hid (TabOk w5) := Lib.hid (HT4.out.far hf5 hp1)
        refine hK _ _ HS5.out.cells (fun hS5 => ?_)
        clear hK K hr5 hf5
        refine wpAnyH_pick (by kernel_rfl) Only.panic (w := w5) hS5 [6, 7, 8, 9, 10] 0 _ _ (by kernel_rfl) ?_
        refine PickOk.value (v := .tuple #[.int .u64 x, .bool true]) rfl rfl (by kernel_rfl) (fun U hU => (by go_simp)) ?_
        refine PickOk.value (v := .int .u64 x) rfl rfl (by kernel_rfl) (fun U hU => (by go_simp)) ?_
        refine PickOk.value (v := .bool true) rfl rfl (by kernel_rfl) (fun U hU => (by go_simp)) ?_
        refine PickOk.value (v := .int .u64 x) rfl rfl (by kernel_rfl) (fun U hU => (by go_simp)) ?_
        refine PickOk.value (v := .bool true) rfl rfl (by kernel_rfl) (fun U hU => (by go_simp)) ?_
        simp only [PickOk, Act.put, List.setIfInBounds_toArray]
        refine wpAnyH_done (by kernel_rfl) ?_ _
        refine Only.here ?_
        clear s0 s1 s2 s3 hS5
        have exor : bits BinOp.xor .u64 ((x : Nat) : Int) (s.v : Int) = ((x ^^^ s.v : Nat) : Int) := u64_xor_nat x _ HX.out hsv
        have hS : VCells w.heap.size s w5.drew := HS5.out.drew.cells
        have hcall := HWAY.out x HX.out w5.drew (fun j hj => HT5.out j hj)
        have HSd : Hid (VStAt w5.drew w.heap.size s) := Lib.hid HS5.out.drew
        have HCALL := Lib.hid hcall; clear hcall
        have hfd : Far w w5.drew (OneSet p) := HF5.out.grownNone (grown_drew (grown_refl w5 none))
        have hrd : RdAt w5.drew p b (q + 2 + s.win) := HR5.out
        have HFD := Lib.hid hfd; have HRD := Lib.hid hrd; clear hfd hrd
        generalize hkk : Va.way s x = kk at *
        have HKK := Lib.hid hkk; clear hkk
        generalize hxv : x ^^^ s.v = xv at *
        have HXV := Lib.hid hxv; clear hxv
        go_upto_region 22 with fail
        refine plain_held (VCells w.heap.size s) (by kernel_rfl) ?_
        generalize w5.drew = wd at *
        refine wpAnyH_pick (by kernel_rfl) Only.panic (w := wd) hS [0, 1, 2, 3, 4, 5, 6, 7, 9] 5 _ _ (by kernel_rfl) ?_
        refine PickOk.value (v := .int .u64 (x : Nat)) rfl rfl (by kernel_rfl) (fun U hU => (by go_simp)) ?_
        refine PickOk.value (v := .pointer (some ⟨w.heap.size, 1, none⟩)) rfl rfl (by kernel_rfl) (fun U hU => (by obtain ⟨h0, h1, h2, h3⟩ := hU; go_simp)) ?_
        refine PickOk.value (v := .int .u64 s.v) rfl rfl (by kernel_rfl) (fun U hU => (by obtain ⟨h0, h1, h2, h3⟩ := hU; go_simp)) ?_
        refine PickOk.value (v := .int .u64 xv) rfl rfl (by kernel_rfl) (fun U hU => (by go_simp)) ?_
        refine PickOk.value (v := .bool true) rfl rfl (by kernel_rfl) (fun U hU => (by go_simp)) ?_
        refine PickOk.value (v := .bool true) rfl rfl (by kernel_rfl) (fun U hU => (by go_simp)) ?_
        refine PickOk.value (v := .agg #[.int .i64 s.n, .int .u64 s.v, .int .i64 s.l, .int .i64 s.t]) rfl rfl (by kernel_rfl) (fun U hU => (by obtain ⟨h0, h1, h2, h3⟩ := hU; go_simp)) ?_
        refine PickOk.value (v := .int .u64 (x : Nat)) rfl rfl (by kernel_rfl) (fun U hU => (by go_simp)) ?_
        refine PickOk.value (v := .int .i64 2) rfl rfl (by kernel_rfl) (fun U hU => (by go_simp)) ?_
        simp only [PickOk, Act.put]
        clear exor
        refine wpAnyH_one (i := 8) (by kernel_rfl) rfl (by kernel_rfl) ?_
        intro K hK
        unfold Oper.wp
        go_simp
        refine HCALL.out.mono ?_; rintro e we ⟨rfl, hbe⟩
        have hSe : VCells w.heap.size s we := (HSd.out.later hbe).cells
        refine hK _ _ hSe (fun _ => ?_)
        clear hK K
        have HFE := Lib.hid (HFD.out.more (far_of_below hbe _)); have HRE := Lib.hid (HRD.out.below hbe)
        clear hbe
        by_cases hkw : kk = 2
        · have e9 : ((kk : Int) == 2) = true := by simp [hkw]
          have HKW := Lib.hid hkw; clear hkw
          refine wpAnyH_pick (by kernel_rfl) Only.panic (w := we) hSe [10, 11, 12, 13] 0 _ _ (by kernel_rfl) ?_
          refine PickOk.value (d := some 112) (v := .bool true) rfl rfl (by kernel_rfl) (fun U hU => (by go_simp)) ?_
          refine PickOk.value (d := some 113) (v := .bool true) rfl rfl (by kernel_rfl) (fun U hU => (by go_simp)) ?_
          refine PickOk.value (d := some 4) (v := .int .u64 xv) rfl rfl (by kernel_rfl) (fun U hU => (by go_simp)) ?_
          refine PickOk.value (d := some 5) (v := .bool true) rfl rfl (by kernel_rfl) (fun U hU => (by go_simp)) ?_
          simp only [PickOk, Act.put, List.setIfInBounds_toArray]
          refine wpAnyH_done (by kernel_rfl) ?_ _
          refine Only.here ?_
          go_wp2_with fail
          refine bodyPost_ret (v := .tuple #[.int .u64 xv, .bool true]) (by simp [results, go_sem]) rfl ?_
          refine ⟨xv, true, rfl, HFE.out, .inl ⟨rfl, ?_, ?_⟩⟩
          · rw [HG3.out, if_pos HKW.out]
          · rw [← HXV.out, Va.S.cost_way, HKK.out, HKW.out]; show RdAt we p b (q + (2 + s.win)); rw [← Nat.add_assoc]; exact HRE.out
        · have e9 : ((kk : Int) == 2) = false := by simp; omega
          have HKW := Lib.hid hkw; clear hkw
          refine wpAnyH_pick (by kernel_rfl) Only.panic (w := we) hSe [10, 11, 12, 13] 0 _ _ (by kernel_rfl) ?_
          refine PickOk.value (d := some 112) (v := .bool false) rfl rfl (by kernel_rfl) (fun U hU => (by go_simp)) ?_
          refine PickOk.value (d := some 113) (v := .bool false) rfl rfl (by kernel_rfl) (fun U hU => (by go_simp)) ?_
          refine PickOk.value (d := some 4) (v := .int .u64 xv) rfl rfl (by kernel_rfl) (fun U hU => (by go_simp)) ?_
          refine PickOk.value (d := some 5) (v := .bool false) rfl rfl (by kernel_rfl) (fun U hU => (by go_simp)) ?_
          simp only [PickOk, Act.put, List.setIfInBounds_toArray]
          refine wpAnyH_done (by kernel_rfl) ?_ _
          refine Only.here ?_
          go_wp2_with fail
          refine bodyPost_ret (v := .tuple #[.int .u64 xv, .bool false]) (by simp [results, go_sem]) rfl ?_
          refine ⟨xv, false, rfl, HFE.out, .inr ⟨rfl, ?_, q + 2 + s.win, by omega, HRE.out⟩⟩
          rw [HG3.out, if_neg HKW.out]
  · have HR3 := Lib.hid hr3; have HF3 := Lib.hid (HF2.out.more hf3); have HS3 := Lib.hid (HS2.out.far hf3 (by omega)); have HT3 : Hid (TabOk w3) := Lib.hid (HT2.out.far hf3 hp1)
    have HN := Lib.hid hn
    clear hr3 hf3 s0 s1 s2 s3 hn
    have s0 := HS3.out.cells.1; have s1 := HS3.out.cells.2.1; have s2 := HS3.out.cells.2.2.1; have s3 := HS3.out.cells.2.2.2
    have HG := Lib.hid ((congrArg s.got hL).trans (Va.S.got_fr HN.out _))
    clear hL
    have hdl : ((Bit.bits b).drop (q + 2)).length = 8 * b.size - (q + 2) := by rw [List.length_drop, hbl]
    rcases Nat.lt_or_ge (8 * b.size) (q + 2 + 6) with hl6 | hl6
    · have HG2 : Hid (s.got ((Bit.bits b).drop q) = none) := Lib.hid (HG.out.trans (if_pos (by omega)))
      go_wp2_with fail
      refine (Get_no p b hb (q + 2) hq3 6 _ HR3.out hl6).mono ?_; rintro e w4 ⟨rfl, hb4⟩
      have HR4 := Lib.hid (HR3.out.below hb4); have HF4 := Lib.hid (HF3.out.more (far_of_below hb4 _)); clear hb4
      go_wp2_with fail
      refine (Get_no p b hb (q + 2) hq3 6 _ HR4.out hl6).mono ?_; rintro e w5 ⟨rfl, hb5⟩
      have HR5 := Lib.hid (HR4.out.below hb5); have HF5 := Lib.hid (HF4.out.more (far_of_below hb5 _)); clear hb5
      go_wp2_with fail
      go_ret2
      exact ⟨0, false, rfl, HF5.out, .inr ⟨rfl, HG2.out, q + 2, hq3, HR5.out⟩⟩
    have b1 := Bit.val_take_lt ((Bit.bits b).drop (q + 2)) 6
    go_wp2_with fail
    refine (Get_yes p b hb (q + 2) 6 _ HR3.out (by show q + 2 + 6 ≤ _; omega)).mono ?_; rintro e w4 ⟨rfl, hr4, hf4⟩
    rw [show Bit.wd 6 = 6 from rfl]
    have HR4 : Hid (RdAt w4 p b (q + 2 + 6)) := Lib.hid hr4; have HF4 := Lib.hid (HF3.out.more hf4); have HS4 := Lib.hid (HS3.out.far hf4 (by omega)); have HT4 : Hid (TabOk w4) := Lib.hid (HT3.out.far hf4 hp1)
    clear hr4 hf4
    generalize Bit.val (((Bit.bits b).drop (q + 2)).take 6) = ld at *
    rcases Nat.lt_or_ge (8 * b.size) (q + 2 + 6 + 6) with hl12 | hl12
    · have HG2 : Hid (s.got ((Bit.bits b).drop q) = none) := Lib.hid (HG.out.trans (if_pos (by omega)))
      go_wp2_with fail
      refine (Get_no p b hb (q + 2 + 6) hl6 6 _ HR4.out hl12).mono ?_; rintro e w5 ⟨rfl, hb5⟩
      have HR5 := Lib.hid (HR4.out.below hb5); have HF5 := Lib.hid (HF4.out.more (far_of_below hb5 _)); clear hb5
      go_wp2_with fail
      go_ret2
      exact ⟨0, false, rfl, HF5.out, .inr ⟨rfl, HG2.out, q + 2 + 6, hl6, HR5.out⟩⟩
    have b2 := Bit.val_take_lt ((Bit.bits b).drop (q + 2 + 6)) 6
    have HG1 := Lib.hid (HG.out.trans (if_neg (by omega)))
    rw [List.drop_drop] at HG1
    go_wp2_with fail
    refine (Get_yes p b hb (q + 2 + 6) 6 _ HR4.out (by show q + 2 + 6 + 6 ≤ _; omega)).mono ?_; rintro e w5 ⟨rfl, hr5, hf5⟩
    rw [show Bit.wd 6 = 6 from rfl]
    have HR5 : Hid (RdAt w5 p b (q + 2 + 12)) := Lib.hid hr5; have HF5 := Lib.hid (HF4.out.more hf5); have HS5 := Lib.hid (HS4.out.far hf5 (by omega)); have HT5 : Hid (TabOk w5) := Lib.hid (HT4.out.far hf5 hp1)
    clear hr5 hf5
    generalize Bit.val (((Bit.bits b).drop (q + 2 + 6)).take 6) = ls at *
    have b1 : ld < 64 := b1
    have b2 : ls < 64 := b2
    have ea : IntKind.u64.wrap ((ld : Int) + (ls : Int)) = (ld : Int) + (ls : Int) := by rw [IntKind.wrap_u64]; omega
    by_cases h63 : 63 < ld + ls
    · have HG2 : Hid (s.got ((Bit.bits b).drop q) = none) := Lib.hid (HG1.out.trans (if_pos h63))
      have h63i : (63 : Int) < (ld : Int) + (ls : Int) := by omega
      go_wp2_with fail
      go_ret2
      exact ⟨0, false, rfl, HF5.out, .inr ⟨rfl, HG2.out, q + 2 + 12, by omega, HR5.out⟩⟩
    have h63i : ¬ (63 : Int) < (ld : Int) + (ls : Int) := by omega
    have HG2 := Lib.hid (HG1.out.trans (if_neg h63))
    have el : IntKind.i64.wrap (ld : Int) = (ld : Int) := IntWalk.i64_in _ (by omega)
    have es : IntKind.i64.wrap (ls : Int) = (ls : Int) := IntWalk.i64_in _ (by omega)
    go_wp2_with fail
    rw [show ((ls : Int) + 1) = ((ls + 1 : Nat) : Int) from by omega]
    rcases Nat.lt_or_ge (8 * b.size) (q + 2 + 12 + (ls + 1)) with hl | hl
    · have HG3 : Hid (s.got ((Bit.bits b).drop q) = none) := Lib.hid (HG2.out.trans (if_pos (by omega)))
      refine (readBits_no p b hb (q + 2 + 12) ld (ls + 1) (by omega) (by omega) (by omega) (by omega) hl w5 HR5.out).mono ?_; rintro e w6 ⟨rfl, hb6⟩
      have HS6 := Lib.hid (HS5.out.later hb6); have HR6 := Lib.hid (HR5.out.below hb6); have HF6 := Lib.hid (HF5.out.more (far_of_below hb6 _))
      clear hb6 s0 s1 s2 s3 ea el es h63i
      have s0 := HS6.out.cells.1; have s1 := HS6.out.cells.2.1; have s2 := HS6.out.cells.2.2.1; have s3 := HS6.out.cells.2.2.2
      have exor : bits BinOp.xor .u64 (0 : Int) (s.v : Int) = ((0 ^^^ s.v : Nat) : Int) := u64_xor_nat 0 _ (by omega) hsv
      go_upto_region 22 with fail
      go_quiet (fail)
      go_wp2_with fail
      go_ret2
      refine ⟨_, false, rfl, HF6.out.grownNone (DrewOf.grown ⟨_, rfl⟩ none), .inr ⟨rfl, ?_, q + 2 + 12, by omega, HR6.out⟩⟩
      exact HG3.out
    · refine (readBits_yes p b hb (q + 2 + 12) ld (ls + 1) (by omega) (by omega) (by omega) hl w5 HR5.out).mono ?_; rintro e w6 ⟨rfl, hr6, hf6⟩
      rw [show 64 - ld - (ls + 1) = 63 - ld - ls from by omega]
      have HG3 := Lib.hid (HG2.out.trans (if_neg (by omega)))
      rw [List.drop_drop] at HG3
      have hx : Bit.val (((Bit.bits b).drop (q + 2 + 12)).take (ls + 1)) * 2 ^ (63 - ld - ls) < 18446744073709551616 := Va.mul_lt (Bit.val_take_lt _ _) (by omega)
      generalize Bit.val (((Bit.bits b).drop (q + 2 + 12)).take (ls + 1)) * 2 ^ (63 - ld - ls) = x at *
      have HX := Lib.hid hx
      have HS6 := Lib.hid (HS5.out.far hf6 (by omega)); have HR6 := Lib.hid hr6; have HF6 := Lib.hid (HF5.out.more hf6); have HT6 : Hid (TabOk w6) := Lib.hid (HT5.out.far hf6 hp1)
      have hlead : Calls Tryz.prog 97 #[.int .u64 x] w6 fun e w' => e = .returned (.int .i64 (Va.lead x : Nat)) ∧ w' = w6 := by
        refine (Lead_any x hx w6).mono ?_
        rintro e w' ⟨rfl, rfl⟩
        refine ⟨ret_int ?_, rfl⟩
        have := Lib.bitLen_le x 64 (by omega) hx
        unfold Va.lead; omega
      have htrail : Calls Tryz.prog 98 #[.int .u64 x] w6 fun e w' => e = .returned (.int .i64 (Va.trail x : Nat)) ∧ w' = w6 := Trail_any x hx w6 HT6.out
      have HLEAD := Lib.hid hlead; have HTRAIL := Lib.hid htrail
      have eu1 : IntKind.u64.wrap (63 - (ld : Int)) = 63 - (ld : Int) := by rw [IntKind.wrap_u64]; omega
      have eu2 : IntKind.u64.wrap (63 - (ld : Int) - (ls : Int)) = 63 - (ld : Int) - (ls : Int) := by rw [IntKind.wrap_u64]; omega
      have eu3 : IntKind.i64.wrap (63 - (ld : Int) - (ls : Int)) = 63 - (ld : Int) - (ls : Int) := IntWalk.i64_in _ (by omega)
      clear hr6 hf6 hx hlead htrail s0 s1 s2 s3 ea h63i
      have s0 := HS6.out.cells.1; have s1 := HS6.out.cells.2.1; have s2 := HS6.out.cells.2.2.1; have s3 := HS6.out.cells.2.2.2
      generalize hle : Va.lead x = lx at *
      generalize hte : Va.trail x = tx at *
      have HLE := Lib.hid hle; have HTE := Lib.hid hte; clear hle hte
      by_cases hle : lx = ld
      · have e7 : ((lx : Int) == (ld : Int)) = true := by simp [hle]
        have HLD := Lib.hid (HLE.out.trans hle); have HLL := Lib.hid hle
        clear hle
        by_cases hte : tx = 63 - ld - ls
        · have e8 : ((tx : Int) == 63 - (ld : Int) - (ls : Int)) = true := by simp; omega
          have HTR := Lib.hid (HTE.out.trans hte); have HTT := Lib.hid hte
          clear hte
          go_wp2_with fail
          refine HLEAD.out.mono ?_; rintro e wx ⟨rfl, rfl⟩
          go_wp2_with fail
          refine HTRAIL.out.mono ?_; rintro e wx2 ⟨rfl, rfl⟩
          have exor : bits BinOp.xor .u64 ((x : Nat) : Int) (s.v : Int) = ((x ^^^ s.v : Nat) : Int) := u64_xor_nat x _ HX.out hsv
          have hS : VCells w.heap.size s wx2.drew := HS6.out.drew.cells
          have hcall := HWAY.out x HX.out wx2.drew (fun j hj => HT6.out j hj)
          have HSd : Hid (VStAt wx2.drew w.heap.size s) := Lib.hid HS6.out.drew
          have HCALL := Lib.hid hcall; clear hcall
          have hfd : Far w wx2.drew (OneSet p) := HF6.out.grownNone (grown_drew (grown_refl wx2 none))
          have hrd : RdAt wx2.drew p b (q + 2 + 12 + (ls + 1)) := HR6.out
          have HFD := Lib.hid hfd; have HRD := Lib.hid hrd; clear hfd hrd
          generalize hkk : Va.way s x = kk at *
          have HKK := Lib.hid hkk; clear hkk
          generalize hxv : x ^^^ s.v = xv at *
          have HXV := Lib.hid hxv; clear hxv
          go_upto_region 22 with fail
          refine plain_held (VCells w.heap.size s) (by kernel_rfl) ?_
          generalize wx2.drew = wd at *
          refine wpAnyH_pick (by kernel_rfl) Only.panic (w := wd) hS [0, 1, 2, 3, 4, 5, 6, 7, 9] 5 _ _ (by kernel_rfl) ?_
          refine PickOk.value (v := .int .u64 (x : Nat)) rfl rfl (by kernel_rfl) (fun U hU => (by go_simp)) ?_
          refine PickOk.value (v := .pointer (some ⟨w.heap.size, 1, none⟩)) rfl rfl (by kernel_rfl) (fun U hU => (by obtain ⟨h0, h1, h2, h3⟩ := hU; go_simp)) ?_
          refine PickOk.value (v := .int .u64 s.v) rfl rfl (by kernel_rfl) (fun U hU => (by obtain ⟨h0, h1, h2, h3⟩ := hU; go_simp)) ?_
          refine PickOk.value (v := .int .u64 xv) rfl rfl (by kernel_rfl) (fun U hU => (by go_simp)) ?_
          refine PickOk.value (v := .bool true) rfl rfl (by kernel_rfl) (fun U hU => (by go_simp)) ?_
          refine PickOk.value (v := .bool true) rfl rfl (by kernel_rfl) (fun U hU => (by go_simp)) ?_
          refine PickOk.value (v := .agg #[.int .i64 s.n, .int .u64 s.v, .int .i64 s.l, .int .i64 s.t]) rfl rfl (by kernel_rfl) (fun U hU => (by obtain ⟨h0, h1, h2, h3⟩ := hU; go_simp)) ?_
          refine PickOk.value (v := .int .u64 (x : Nat)) rfl rfl (by kernel_rfl) (fun U hU => (by go_simp)) ?_
          refine PickOk.value (v := .int .i64 3) rfl rfl (by kernel_rfl) (fun U hU => (by go_simp)) ?_
          simp only [PickOk, Act.put, List.setIfInBounds_toArray]
          clear exor
          refine wpAnyH_one (i := 8) (by kernel_rfl) rfl (by kernel_rfl) ?_
          intro K hK
          unfold Oper.wp
          go_simp
          refine HCALL.out.mono ?_; rintro e we ⟨rfl, hbe⟩
          have hSe : VCells w.heap.size s we := (HSd.out.later hbe).cells
          refine hK _ _ hSe (fun _ => ?_)
          clear hK K
          have HFE := Lib.hid (HFD.out.more (far_of_below hbe _)); have HRE := Lib.hid (HRD.out.below hbe)
          clear hbe
          by_cases hkw : kk = 3
          · have e9 : ((kk : Int) == 3) = true := by simp [hkw]
            have HKW := Lib.hid hkw; clear hkw
            refine wpAnyH_pick (by kernel_rfl) Only.panic (w := we) hSe [10, 11, 12, 13] 0 _ _ (by kernel_rfl) ?_
            refine PickOk.value (d := some 112) (v := .bool true) rfl rfl (by kernel_rfl) (fun U hU => (by go_simp)) ?_
            refine PickOk.value (d := some 113) (v := .bool true) rfl rfl (by kernel_rfl) (fun U hU => (by go_simp)) ?_
            refine PickOk.value (d := some 4) (v := .int .u64 xv) rfl rfl (by kernel_rfl) (fun U hU => (by go_simp)) ?_
            refine PickOk.value (d := some 5) (v := .bool true) rfl rfl (by kernel_rfl) (fun U hU => (by go_simp)) ?_
            simp only [PickOk, Act.put, List.setIfInBounds_toArray]
            refine wpAnyH_done (by kernel_rfl) ?_ _
            refine Only.here ?_
            go_wp2_with fail
            refine bodyPost_ret (v := .tuple #[.int .u64 xv, .bool true]) (by simp [results, go_sem]) rfl ?_
            refine ⟨xv, true, rfl, HFE.out, .inl ⟨rfl, ?_, ?_⟩⟩
            · rw [HG3.out, if_pos ⟨HLL.out, HTT.out, HKW.out⟩]
            · have hw := HKK.out.trans HKW.out; rw [← HXV.out, Va.S.cost_fresh hw, HLD.out, HTR.out]; have e : q + (14 + (64 - ld - (63 - ld - ls))) = q + 2 + 12 + (ls + 1) := (by omega); rw [e]; exact HRE.out
          · have e9 : ((kk : Int) == 3) = false := by simp; omega
            have HKW := Lib.hid hkw; clear hkw
            refine wpAnyH_pick (by kernel_rfl) Only.panic (w := we) hSe [10, 11, 12, 13] 0 _ _ (by kernel_rfl) ?_
            refine PickOk.value (d := some 112) (v := .bool false) rfl rfl (by kernel_rfl) (fun U hU => (by go_simp)) ?_
            refine PickOk.value (d := some 113) (v := .bool false) rfl rfl (by kernel_rfl) (fun U hU => (by go_simp)) ?_
            refine PickOk.value (d := some 4) (v := .int .u64 xv) rfl rfl (by kernel_rfl) (fun U hU => (by go_simp)) ?_
            refine PickOk.value (d := some 5) (v := .bool false) rfl rfl (by kernel_rfl) (fun U hU => (by go_simp)) ?_
            simp only [PickOk, Act.put, List.setIfInBounds_toArray]
            refine wpAnyH_done (by kernel_rfl) ?_ _
            refine Only.here ?_
            go_wp2_with fail
            refine bodyPost_ret (v := .tuple #[.int .u64 xv, .bool false]) (by simp [results, go_sem]) rfl ?_
            refine ⟨xv, false, rfl, HFE.out, .inr ⟨rfl, ?_, q + 2 + 12 + (ls + 1), by omega, HRE.out⟩⟩
            rw [HG3.out, if_neg (fun h => HKW.out h.2.2)]
        · have e8 : ((tx : Int) == 63 - (ld : Int) - (ls : Int)) = false := by simp; omega
          have HTT := Lib.hid hte; clear hte
          go_wp2_with fail
          refine HLEAD.out.mono ?_; rintro e wx ⟨rfl, rfl⟩
          go_wp2_with fail
          refine HTRAIL.out.mono ?_; rintro e wx2 ⟨rfl, rfl⟩
          have exor : bits BinOp.xor .u64 (x : Int) (s.v : Int) = ((x ^^^ s.v : Nat) : Int) := u64_xor_nat x _ HX.out hsv
          go_upto_region 22 with fail
          go_quiet (fail)
          go_wp2_with fail
          go_ret2
          refine ⟨_, false, rfl, HF6.out.grownNone (DrewOf.grown ⟨_, rfl⟩ none), .inr ⟨rfl, ?_, q + 2 + 12 + (ls + 1), by omega, HR6.out⟩⟩
          rw [HG3.out, if_neg (fun h => HTT.out h.2.1)]
      · have e7 : ((lx : Int) == (ld : Int)) = false := by simp; omega
        have HLL := Lib.hid hle; clear hle
        go_wp2_with fail
        refine HLEAD.out.mono ?_; rintro e wx ⟨rfl, rfl⟩
        have exor : bits BinOp.xor .u64 (x : Int) (s.v : Int) = ((x ^^^ s.v : Nat) : Int) := u64_xor_nat x _ HX.out hsv
        go_upto_region 22 with fail
        go_quiet (fail)
        go_wp2_with fail
        go_ret2
        refine ⟨_, false, rfl, HF6.out.grownNone (DrewOf.grown ⟨_, rfl⟩ none), .inr ⟨rfl, ?_, q + 2 + 12 + (ls + 1), by omega, HR6.out⟩⟩
        rw [HG3.out, if_neg (fun h => HLL.out h.1)]
end Go.Proofs.YtfgcgjogaaofdaaGreatDoor
