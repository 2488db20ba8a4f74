/-
  What Put of the document's answer for package value comes to: a fresh window (way 3), and so every way.
-/
import Derived.Test.YtahdfcflgicpkaaDoorVaO
namespace Go.Proofs.YtahdfcflgicpkaaDoor
open Go.RowKit
/-- what Put carries along -/
structure PutHeld (w : World) (gy : Nat) (z y : Va.S) (W : World) : Prop where
  st : RVStAt W (w.heap.size + 1) z
  nx : RVStAt W gy y
  bel : Below w.heap.size w W
theorem PutHeld.drew {w W : World} {gy : Nat} {z y : Va.S} (h : PutHeld w gy z y W) : PutHeld w gy z y W.drew := ⟨h.st, h.nx, h.bel.drew⟩
set_option maxRecDepth 100000 in
set_option maxHeartbeats 4000000 in
theorem rVPut_3 (s : Va.S) (hok : s.ok) (hn : s.n < 2199023255552) (v : Nat) (hv : v < 18446744073709551616) (h3 : Va.way s (v ^^^ s.v) = 3) (w : World) :
    Calls Tryd.prog 27 #[s.val, .int .u64 v] w fun e w' => e = .returned (.tuple #[.string (Bit.str (s.code v)), (s.next v).val]) ∧ Below w.heap.size w w' := by
  have hval : ∀ s : Va.S, s.val = .agg #[.int .i64 s.n, .int .u64 s.v, .int .i64 s.l, .int .i64 s.t] := fun _ => rfl
  have hvd := fun W => rVValid_any s hok W
  rw [hval] at hvd
  have HVD := Lib.hid hvd; clear hvd
  have hb0 : Below w.heap.size w ((w.alloc (.cells #[.int .i64 s.n, .int .u64 s.v, .int .i64 s.l, .int .i64 s.t] 46)).alloc (.cells #[.int .i64 0, .int .u64 0, .int .i64 0, .int .i64 0] 46)) := ((Below.refl _ _).alloc (Nat.le_refl _) _).alloc (by simp) _
  have hs0 : RVStAt (w.alloc (.cells #[.int .i64 s.n, .int .u64 s.v, .int .i64 s.l, .int .i64 s.t] 46)) w.heap.size s := RowIs.one _ _
  have hs1 := hs0.later ((Below.refl _ _).alloc (Nat.le_refl _) (.cells #[.int .i64 0, .int .u64 0, .int .i64 0, .int .i64 0] 46))
  have hy1 : RVStAt ((w.alloc (.cells #[.int .i64 s.n, .int .u64 s.v, .int .i64 s.l, .int .i64 s.t] 46)).alloc (.cells #[.int .i64 0, .int .u64 0, .int .i64 0, .int .i64 0] 46)) (w.heap.size + 1) ⟨0, 0, 0, 0⟩ := by
    have h : (w.alloc (.cells #[.int .i64 s.n, .int .u64 s.v, .int .i64 s.l, .int .i64 s.t] 46)).heap.size = w.heap.size + 1 := by simp
    rw [← h]; exact RowIs.one _ _
  have hz0 : w.heap.size + 1 < ((w.alloc (.cells #[.int .i64 s.n, .int .u64 s.v, .int .i64 s.l, .int .i64 s.t] 46)).alloc (.cells #[.int .i64 0, .int .u64 0, .int .i64 0, .int .i64 0] 46)).heap.size := by simp
  have HB := Lib.hid hb0; have HS := Lib.hid hs1; have HY := Lib.hid hy1
  clear hb0 hs0 hs1 hy1
  have HV := Lib.hid hv
  have hw64 : Bit.wd 64 = 64 := rfl
  have hbits := fun W => rBits_any v HV 64 W
  rw [hw64] at hbits
  have HBV := Lib.hid hbits; clear hbits
  have e1 : wrap64 ((s.n : Int) + 1) = (s.n : Int) + 1 := IntWalk.wrap64_in _ (by omega)
  have hxx := u64_xor_nat v s.v hv hok.v
  have hxl := Va.xor_lt hv hok.v
  have HOK := Lib.hid hok; clear hok
  rw [hval s]
  go_enter Tryd.func27, Tryd.ntmps27
  generalize hwa : (w.alloc (.cells #[.int .i64 s.n, .int .u64 s.v, .int .i64 s.l, .int .i64 s.t] 46)).alloc (.cells #[.int .i64 0, .int .u64 0, .int .i64 0, .int .i64 0] 46) = wa at HB HS HY hz0
  obtain ⟨a0, a1, a2, a3⟩ := HS.out.cells
  go_wp2_with fail
  refine (HVD.out _).mono ?_; rintro e w1 ⟨rfl, hb1⟩
  have HB1 := Lib.hid (HB.out.trans (hb1.mono HB.out.size)); have HS1 := Lib.hid (HS.out.later hb1); have HY1 := Lib.hid (HY.out.later hb1)
  have hz1 : w.heap.size + 1 < w1.heap.size := Nat.lt_of_lt_of_le hz0 hb1.size
  clear hb1 HB HS HY hz0 hwa a0 a1 a2 a3
  obtain ⟨a0, a1, a2, a3⟩ := HS1.out.cells
  obtain ⟨y0, y1, y2, y3⟩ := HY1.out.cells
  obtain ⟨f0, f1, f2, f3⟩ := HY1.out.free
  go_wp2_with fail
  refine (HBV.out _).mono ?_; rintro e wx ⟨rfl, rfl⟩
  have hz2 : w.heap.size < wx.heap.size := by omega
  have hb2 := HB1.out.alloc HB1.out.size (.cells #[.int .i64 ((s.n : Int) + 1), .int .u64 v, .int .i64 s.l, .int .i64 s.t] 46)
  have HB2 := Lib.hid hb2; clear hb2
  have hys : RVStAt ((((wx.setCell ⟨w.heap.size + 1, 0, none⟩ (.int .i64 ((s.n : Int) + 1))).setCell ⟨w.heap.size + 1, 1, none⟩ (.int .u64 v)).setCell ⟨w.heap.size + 1, 2, none⟩ (.int .i64 s.l)).setCell ⟨w.heap.size + 1, 3, none⟩ (.int .i64 s.t)) (w.heap.size + 1) ⟨s.n + 1, v, s.l, s.t⟩ := HY1.out.set ⟨s.n + 1, v, s.l, s.t⟩
  have hye := (hys.later ((Below.refl _ _).alloc (Nat.le_refl _) (.cells #[.int .i64 ((s.n : Int) + 1), .int .u64 v, .int .i64 s.l, .int .i64 s.t] 46))).cells
  have hgr := grown_four wx (w.heap.size + 1) 0 1 2 3 (.int .i64 ((s.n : Int) + 1)) (.int .u64 v) (.int .i64 s.l) (.int .i64 s.t)
  have hbe := Below.drew ((HB1.out.grown hgr HB1.out.size (fun r e => by cases e; omega)).alloc (Nat.le_trans HB1.out.size hgr.size) (.cells #[.int .i64 ((s.n : Int) + 1), .int .u64 v, .int .i64 s.l, .int .i64 s.t] 46))
  have HYE := Lib.hid hye; have HBE := Lib.hid hbe
  clear hys hye hgr hbe
  obtain ⟨h0, hx⟩ := Va.way_three h3
  have d0 : ((s.n : Int) == 0) = false := by simp [h0]
  have dx : (((v ^^^ s.v : Nat) : Int) == 0) = false := by simp; omega
  have HXL := Lib.hid hxl
  have HLD : Hid (∀ W, Calls Tryd.prog 40 #[.int .u64 ((v ^^^ s.v : Nat) : Int)] W fun e w' => e = .returned (.int .i64 (Va.lead (v ^^^ s.v) : Nat)) ∧ w' = W) := Lib.hid (fun W => (rLead_any _ HXL W).mono (fun e w' ⟨h, h2⟩ => ⟨by rw [h]; have h3 := (Lib.bitLenAux_bounds 64 (v ^^^ s.v) hxl (by omega)).1; congr 2; unfold Va.lead; have h4 := Lib.bitLen_le (v ^^^ s.v) 64 (by omega) (by omega); omega, h2⟩))
  have HTR : Hid (∀ W, Calls Tryd.prog 41 #[.int .u64 ((v ^^^ s.v : Nat) : Int)] W fun e w' => e = .returned (.int .i64 (Va.trail (v ^^^ s.v) : Nat)) ∧ w' = W) := Lib.hid (fun W => rTrail_any _ HXL W)
  have hbx := fun W => rBits_any (v ^^^ s.v) HXL 64 W
  rw [hw64] at hbx
  have HBX := Lib.hid hbx; clear hbx
  have hends := (Va.ends hxl hx).1
  have hpc := Va.piece (v ^^^ s.v) (Va.lead (v ^^^ s.v)) (Va.trail (v ^^^ s.v)) (by omega)
  have hsz : (Bit.str (Bit.of (v ^^^ s.v) 64)).size = 64 := by rw [Bit.str_size, Bit.of_length]
  have hnw : ¬ (s.l ≠ 64 ∧ s.l ≤ Va.lead (v ^^^ s.v) ∧ s.t ≤ Va.trail (v ^^^ s.v)) := fun h => by have := Va.way_two.2 ⟨h0, hx, h⟩; rw [h3] at this; cases this
  have HNX : Hid (s.next v = ⟨s.n + 1, v, Va.lead (v ^^^ s.v), Va.trail (v ^^^ s.v)⟩) := Lib.hid (by unfold Va.S.next; rw [if_pos h3])
  have HC : Hid (s.code v = Bit.of 3 2 ++ Bit.of (Va.lead (v ^^^ s.v)) 6 ++ Bit.of (64 - Va.lead (v ^^^ s.v) - Va.trail (v ^^^ s.v) - 1) 6 ++ Bit.of ((v ^^^ s.v) / 2 ^ Va.trail (v ^^^ s.v)) (64 - Va.lead (v ^^^ s.v) - Va.trail (v ^^^ s.v))) := Lib.hid (by unfold Va.S.code; rw [h3, if_neg (by decide), if_neg (by decide), if_neg (by decide), HNX.out]; rfl)
  have m0 : Bit.str (Bit.of 3 2) = (⟨#[49, 49]⟩ : ByteArray) := by decide +kernel
  have hw6 : Bit.wd 6 = 6 := rfl
  have hb6 := fun W => rBits_any (Va.lead (v ^^^ s.v)) (Lib.hid (by omega)) 6 W
  have hb7 := fun W => rBits_any (63 - Va.lead (v ^^^ s.v) - Va.trail (v ^^^ s.v)) (Lib.hid (by omega)) 6 W
  rw [hw6] at hb6 hb7
  have HPC := Lib.hid hpc
  have HCX : Hid (Bit.str (s.code v) = ⟨#[49, 49]⟩ ++ Bit.str (Bit.of (Va.lead (v ^^^ s.v)) 6) ++ Bit.str (Bit.of (63 - Va.lead (v ^^^ s.v) - Va.trail (v ^^^ s.v)) 6) ++ (Bit.str (Bit.of (v ^^^ s.v) 64)).extract (Va.lead (v ^^^ s.v)) (64 - Va.trail (v ^^^ s.v))) := Lib.hid (by
    rw [HC.out, HPC.out, ← Bit.str_append, ← Bit.str_append, ← Bit.str_append, m0, show 64 - Va.lead (v ^^^ s.v) - Va.trail (v ^^^ s.v) - 1 = 63 - Va.lead (v ^^^ s.v) - Va.trail (v ^^^ s.v) from by omega])
  have hs1 : (Bit.str (Bit.of (Va.lead (v ^^^ s.v)) 6)).size = 6 := by rw [Bit.str_size, Bit.of_length]
  have hs2 : (Bit.str (Bit.of (63 - Va.lead (v ^^^ s.v) - Va.trail (v ^^^ s.v)) 6)).size = 6 := by rw [Bit.str_size, Bit.of_length]
  have hs3 : ((Bit.str (Bit.of (v ^^^ s.v) 64)).extract (Va.lead (v ^^^ s.v)) (64 - Va.trail (v ^^^ s.v))).size ≤ 64 := by rw [ByteArray.size_extract]; omega
  have HB6 := Lib.hid hb6; have HB7 := Lib.hid hb7
  have HNX2 : Hid ((s.next v).val = .agg #[.int .i64 ((s.n : Int) + 1), .int .u64 v, .int .i64 (Va.lead (v ^^^ s.v)), .int .i64 (Va.trail (v ^^^ s.v))]) := Lib.hid (by rw [HNX.out]; rfl)
  clear HC HPC hpc hb6 hb7 h3 h0 hx HNX
  generalize Va.lead (v ^^^ s.v) = ld at *
  generalize Va.trail (v ^^^ s.v) = tr at *
  generalize Bit.str (Bit.of ld 6) = S1 at *
  generalize Bit.str (Bit.of (63 - ld - tr) 6) = S2 at *
  generalize hbs : Bit.str (Bit.of (v ^^^ s.v) 64) = bs at *
  clear hbs
  generalize v ^^^ s.v = x at *
  clear hxl
  have HW1 := Lib.hid hnw; clear hnw HYE HBE
  go_wp2_with fail
  refine (HLD.out _).mono ?_; rintro e wy ⟨rfl, rfl⟩
  go_wp2_with fail
  refine (HTR.out _).mono ?_; rintro e wz ⟨rfl, rfl⟩
  go_wp2_with fail
  refine (HBX.out _).mono ?_; rintro e wu ⟨rfl, rfl⟩
  go_upto_region 13 with fail
  have hst5 : RVStAt (wx.alloc (.cells #[.int .i64 ((s.n : Int) + 1), .int .u64 v, .int .i64 s.l, .int .i64 s.t] 46)) wx.heap.size ⟨s.n + 1, v, s.l, s.t⟩ := RowIs.one _ _
  have hal : Below wx.heap.size wx (wx.alloc (.cells #[.int .i64 ((s.n : Int) + 1), .int .u64 v, .int .i64 s.l, .int .i64 s.t] 46)) := (Below.refl _ _).alloc (Nat.le_refl _) _
  have hs5 := HS1.out.later hal
  have hh5 : PutHeld w wx.heap.size ⟨0, 0, 0, 0⟩ ⟨s.n + 1, v, s.l, s.t⟩ (wx.alloc (.cells #[.int .i64 ((s.n : Int) + 1), .int .u64 v, .int .i64 s.l, .int .i64 s.t] 46)) := ⟨HY1.out.later hal, hst5, HB2.out⟩
  have HH5 := Lib.hid hh5; have HS5 := Lib.hid hs5
  have hz5 : wx.heap.size < (wx.alloc (.cells #[.int .i64 ((s.n : Int) + 1), .int .u64 v, .int .i64 s.l, .int .i64 s.t] 46)).heap.size := by simp
  clear hst5 hal hs5 hh5 HB1 HS1 HY1 HB2 a0 a1 a2 a3 y0 y1 y2 y3 f0 f1 f2 f3
  generalize wx.alloc (.cells #[.int .i64 ((s.n : Int) + 1), .int .u64 v, .int .i64 s.l, .int .i64 s.t] 46) = w5 at *
  generalize wx.heap.size = gy at *
  obtain ⟨a0, a1, a2, a3⟩ := HS5.out.cells
  go_cut [59] (fun c wc => c = .bool false ∧ wc = w5)
  case first =>
    have hw := HW1.out; have hok2 := HOK.out.w
    by_cases g1 : s.l < 64
    · have dl : decide ((s.l : Int) < 64) = true := by simp; omega
      by_cases g2 : s.l ≤ ld
      · have dl2 : decide ((s.l : Int) ≤ (ld : Int)) = true := by simp; omega
        have g3 : ¬ s.t ≤ tr := fun h => hw ⟨by omega, g2, h⟩
        have dt2 : decide ((s.t : Int) ≤ (tr : Int)) = false := by simp; omega
        go_wp2_with fail
        go_meet
        exact ⟨rfl, rfl⟩
      · have dl2 : decide ((s.l : Int) ≤ (ld : Int)) = false := by simp; omega
        go_wp2_with fail
        go_meet
        exact ⟨rfl, rfl⟩
    · have dl : decide ((s.l : Int) < 64) = false := by simp; omega
      go_wp2_with fail
      go_meet
      exact ⟨rfl, rfl⟩
  case rest =>
    obtain ⟨rfl, rfl⟩ := hcut
    obtain ⟨n0, n1, n2, n3⟩ := HH5.out.nx.cells
    obtain ⟨f0, f1, f2, f3⟩ := HH5.out.nx.free
    go_upto_region 17 with fail
    have hw7 := HH5.out.nx.window ld tr
    have hg7 := grown_two wc gy 2 3 (.int .i64 (ld : Int)) (.int .i64 (tr : Int))
    have hh7 : PutHeld w gy ⟨0, 0, 0, 0⟩ ⟨s.n + 1, v, ld, tr⟩ ((wc.setCell ⟨gy, 2, none⟩ (.int .i64 (ld : Int))).setCell ⟨gy, 3, none⟩ (.int .i64 (tr : Int))) := ⟨HH5.out.st.grown hg7 (by simp; omega), hw7, HH5.out.bel.grown hg7 HH5.out.bel.size (fun r e => by cases e; omega)⟩
    have HH7 := Lib.hid hh7
    clear hw7 hg7 hh7 HH5 HS5 hz5 a0 a1 a2 a3 n0 n1 n2 n3 f0 f1 f2 f3
    generalize (wc.setCell ⟨gy, 2, none⟩ (.int .i64 (ld : Int))).setCell ⟨gy, 3, none⟩ (.int .i64 (tr : Int)) = w7 at *
    have HHd := Lib.hid HH7.out.drew
    refine plain_held (fun U => U.cell? ⟨gy, 0, none⟩ = some (.int .i64 ((s.n : Int) + 1)) ∧ U.cell? ⟨gy, 1, none⟩ = some (.int .u64 v) ∧ U.cell? ⟨gy, 2, none⟩ = some (.int .i64 ld) ∧ U.cell? ⟨gy, 3, none⟩ = some (.int .i64 tr)) (by kernel_rfl) ?_
    have hS : w7.drew.cell? ⟨gy, 0, none⟩ = some (.int .i64 ((s.n : Int) + 1)) ∧ w7.drew.cell? ⟨gy, 1, none⟩ = some (.int .u64 v) ∧ w7.drew.cell? ⟨gy, 2, none⟩ = some (.int .i64 ld) ∧ w7.drew.cell? ⟨gy, 3, none⟩ = some (.int .i64 tr) := HHd.out.nx.cells
    clear HH7
    generalize w7.drew = wd at *
    have c1 : IntKind.u64.wrap (ld : Int) = (ld : Int) := by unfold IntKind.wrap; simp [IntKind.bits]; omega
    have q1 : IntKind.i64.wrap (63 - (ld : Int)) = ((63 - ld : Nat) : Int) := by rw [IntWalk.i64_in _ (by omega)]; omega
    have q2 : IntKind.i64.wrap (((63 - ld : Nat) : Int) - (tr : Int)) = ((63 - ld - tr : Nat) : Int) := by rw [IntWalk.i64_in _ (by omega)]; omega
    have k1 : ld ≤ 64 - tr := by omega
    have k2 : 64 - tr ≤ 64 := by omega
    have k3 : ¬ (64 : Int) < ((64 - tr : Nat) : Int) := by omega
    have k4 : 14 + (64 - tr - ld) ≤ 9223372036854775807 := by omega
    have q3 : IntKind.i64.wrap (64 - (tr : Int)) = ((64 - tr : Nat) : Int) := by rw [IntWalk.i64_in _ (by omega)]; omega
    have c2 : IntKind.u64.wrap ((63 - ld - tr : Nat) : Int) = ((63 - ld - tr : Nat) : Int) := by unfold IntKind.wrap; simp [IntKind.bits]; omega
    refine wpAnyH_pickQ (by kernel_rfl) Only.panic Only.keepsIn (w := wd) hS [0, 1, 2, 3, 4, 5, 6, 7, 8, 9, 10, 11, 12, 13, 14, 15, 16, 17, 18] 1 _ _ (by kernel_rfl) ?_
    refine PickQ.value (d := some 73) (.int .i64 ld) rfl rfl (by kernel_rfl) (fun U hU => (by go_simp)) ?_
    refine PickQ.value (d := some 74) (.int .u64 ld) rfl rfl (by kernel_rfl) (fun U hU => (by go_simp)) ?_
    refine PickQ.call (d := some 75) (.string S1) 36 #[.int .u64 ld, .int .i64 6] rfl rfl (by kernel_rfl) (fun U hU => (by go_simp)) (fun U hU => HB6.out U) ?_
    refine PickQ.value (d := some 76) (.string (⟨#[49, 49]⟩ ++ S1)) rfl rfl (by kernel_rfl) (fun U hU => (by go_simp)) ?_
    refine PickQ.value (d := some 77) (.int .i64 ld) rfl rfl (by kernel_rfl) (fun U hU => (by go_simp)) ?_
    refine PickQ.value (d := some 78) (.int .i64 ((63 - ld : Nat) : Int)) rfl rfl (by kernel_rfl) (fun U hU => (by go_simp)) ?_
    refine PickQ.value (d := some 79) (.int .i64 tr) rfl rfl (by kernel_rfl) (fun U hU => (by go_simp)) ?_
    refine PickQ.value (d := some 80) (.int .i64 ((63 - ld - tr : Nat) : Int)) rfl rfl (by kernel_rfl) (fun U hU => (by go_simp)) ?_
    refine PickQ.value (d := some 81) (.int .u64 ((63 - ld - tr : Nat) : Int)) rfl rfl (by kernel_rfl) (fun U hU => (by go_simp)) ?_
    refine PickQ.call (d := some 82) (.string S2) 36 #[.int .u64 ((63 - ld - tr : Nat) : Int), .int .i64 6] rfl rfl (by kernel_rfl) (fun U hU => (by go_simp)) (fun U hU => HB7.out U) ?_
    refine PickQ.value (d := some 83) (.string (⟨#[49, 49]⟩ ++ S1 ++ S2)) rfl rfl (by kernel_rfl) (fun U hU => (by go_simp)) ?_
    refine PickQ.value (d := some 84) (.string bs) rfl rfl (by kernel_rfl) (fun U hU => (by go_simp)) ?_
    refine PickQ.value (d := some 85) (.int .i64 ld) rfl rfl (by kernel_rfl) (fun U hU => (by go_simp)) ?_
    refine PickQ.value (d := some 86) (.int .i64 tr) rfl rfl (by kernel_rfl) (fun U hU => (by go_simp)) ?_
    refine PickQ.value (d := some 87) (.int .i64 ((64 - tr : Nat) : Int)) rfl rfl (by kernel_rfl) (fun U hU => (by go_simp)) ?_
    refine PickQ.value (d := some 88) (.string (bs.extract ld (64 - tr))) rfl rfl (by kernel_rfl) (fun U hU => (by go_simp)) ?_
    refine PickQ.value (d := some 89) (.string (⟨#[49, 49]⟩ ++ S1 ++ S2 ++ bs.extract ld (64 - tr))) rfl rfl (by kernel_rfl) (fun U hU => (by go_simp)) ?_
    refine PickQ.value (d := some 90) (.agg #[.int .i64 ((s.n : Int) + 1), .int .u64 v, .int .i64 ld, .int .i64 tr]) rfl rfl (by kernel_rfl) (fun U hU => (by obtain ⟨h0, h1, h2, h3⟩ := hU; go_simp)) ?_
    refine PickQ.value (d := some 4) (.string (⟨#[49, 49]⟩ ++ S1 ++ S2 ++ bs.extract ld (64 - tr))) rfl rfl (by kernel_rfl) (fun U hU => (by go_simp)) ?_
    simp only [PickQ, Act.put, List.setIfInBounds_toArray, List.set_cons_zero, List.set_cons_succ]
    have hset := (HHd.out.st.set ⟨s.n + 1, v, ld, tr⟩).cells
    have hgr := grown_four wd (w.heap.size + 1) 0 1 2 3 (.int .i64 ((s.n : Int) + 1)) (.int .u64 v) (.int .i64 ld) (.int .i64 tr)
    have hSE := (HHd.out.nx.grown hgr (by simp; omega)).cells
    have hbe := HHd.out.bel.grown hgr HHd.out.bel.size (fun r e => by cases e; omega)
    obtain ⟨y0, y1, y2, y3⟩ := HHd.out.st.cells
    obtain ⟨f0, f1, f2, f3⟩ := HHd.out.st.free
    simp only [Int.natCast_add, Int.cast_ofNat_Int] at hset
    have HSET := Lib.hid hset; have HSE := Lib.hid hSE; have HBE := Lib.hid hbe
    clear hset hgr hSE hbe c1 q1 q2 q3 c2 k1 k2 k3 k4
    refine wpAnyH_one (i := 19) (by kernel_rfl) rfl (by kernel_rfl) ?_
    intro K hK
    unfold Oper.wp
    go_simp
    refine hK _ _ HSE.out (fun _ => ?_)
    clear hK K
    refine wpAnyH_done (by kernel_rfl) ?_ _
    refine Only.next ?_
    go_wp2_with fail
    refine bodyPost_ret (v := .tuple #[.string (⟨#[49, 49]⟩ ++ S1 ++ S2 ++ bs.extract ld (64 - tr)), .agg #[.int .i64 ((s.n : Int) + 1), .int .u64 v, .int .i64 ld, .int .i64 tr]]) ?_ rfl ⟨by rw [HCX.out]; exact congrArg (fun z => Ending.returned (.tuple #[.string _, z])) HNX2.out.symm, ?_⟩
    · obtain ⟨e0, e1', e2, e3⟩ := HSET.out
      simp [results, go_sem, e0, e1', e2, e3]
    · exact HBE.out
theorem rVPut_any (s : Va.S) (hok : s.ok) (hn : s.n < 2199023255552) (v : Nat) (hv : v < 18446744073709551616) (w : World) :
    Calls Tryd.prog 27 #[s.val, .int .u64 v] w fun e w' => e = .returned (.tuple #[.string (Bit.str (s.code v)), (s.next v).val]) ∧ Below w.heap.size w w' := by
  by_cases h3 : Va.way s (v ^^^ s.v) = 3
  · exact rVPut_3 s hok hn v hv h3 w
  · exact rVPut_but3 s hok hn v hv (Lib.hid h3) w
end Go.Proofs.YtahdfcflgicpkaaDoor
