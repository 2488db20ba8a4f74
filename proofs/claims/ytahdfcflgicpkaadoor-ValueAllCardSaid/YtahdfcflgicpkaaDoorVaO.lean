/-
  What Put of the document's answer for package value comes to, but for a fresh window (way 3).
-/
import Derived.Test.YtahdfcflgicpkaaDoorVaN
import Derived.Test.YtahdfcflgicpkaaDoorBitR
import Derived.Test.YtahdfcflgicpkaaDoorBitL
namespace Go.Proofs.YtahdfcflgicpkaaDoor
open Go.RowKit
set_option maxRecDepth 100000 in
set_option maxHeartbeats 4000000 in
theorem rVPut_but3 (s : Va.S) (hok : s.ok) (hn : s.n < 2199023255552) (v : Nat) (hv : v < 18446744073709551616) (hno3 : Hid (Va.way s (v ^^^ s.v) ≠ 3)) (w : World) :
    Calls Tryd.prog 27 #[s.val, .int .u64 v] w fun e w' => e = .returned (.tuple #[.string (Bit.str (s.code v)), (s.next v).val]) ∧ Below w.heap.size w w' := by
  have hval : ∀ s : Va.S, s.val = .agg #[.int .i64 s.n, .int .u64 s.v, .int .i64 s.l, .int .i64 s.t] := fun _ => rfl
  have hvd := fun W => rVValid_any s hok W
  rw [hval] at hvd
  have HVD := Lib.hid hvd; clear hvd
  have hb0 : Below w.heap.size w ((w.alloc (.cells #[.int .i64 s.n, .int .u64 s.v, .int .i64 s.l, .int .i64 s.t] 46)).alloc (.cells #[.int .i64 0, .int .u64 0, .int .i64 0, .int .i64 0] 46)) := ((Below.refl _ _).alloc (Nat.le_refl _) _).alloc (by simp) _
  have hs0 : RVStAt (w.alloc (.cells #[.int .i64 s.n, .int .u64 s.v, .int .i64 s.l, .int .i64 s.t] 46)) w.heap.size s := RowIs.one _ _
  have hs1 := hs0.later ((Below.refl _ _).alloc (Nat.le_refl _) (.cells #[.int .i64 0, .int .u64 0, .int .i64 0, .int .i64 0] 46))
  have hy1 : RVStAt ((w.alloc (.cells #[.int .i64 s.n, .int .u64 s.v, .int .i64 s.l, .int .i64 s.t] 46)).alloc (.cells #[.int .i64 0, .int .u64 0, .int .i64 0, .int .i64 0] 46)) (w.heap.size + 1) ⟨0, 0, 0, 0⟩ := by
    have h : (w.alloc (.cells #[.int .i64 s.n, .int .u64 s.v, .int .i64 s.l, .int .i64 s.t] 46)).heap.size = w.heap.size + 1 := by simp
    rw [← h]; exact RowIs.one _ _
  have hz0 : w.heap.size + 1 < ((w.alloc (.cells #[.int .i64 s.n, .int .u64 s.v, .int .i64 s.l, .int .i64 s.t] 46)).alloc (.cells #[.int .i64 0, .int .u64 0, .int .i64 0, .int .i64 0] 46)).heap.size := by simp
  have HB := Lib.hid hb0; have HS := Lib.hid hs1; have HY := Lib.hid hy1
  clear hb0 hs0 hs1 hy1
  have HV := Lib.hid hv
  have hw64 : Bit.wd 64 = 64 := rfl
  have hbits := fun W => rBits_any v HV 64 W
  rw [hw64] at hbits
  have HBV := Lib.hid hbits; clear hbits
  have e1 : wrap64 ((s.n : Int) + 1) = (s.n : Int) + 1 := IntWalk.wrap64_in _ (by omega)
  have hxx := u64_xor_nat v s.v hv hok.v
  have hxl := Va.xor_lt hv hok.v
  have HOK := Lib.hid hok; clear hok
  rw [hval s]
  go_enter Tryd.func27, Tryd.ntmps27
  generalize hwa : (w.alloc (.cells #[.int .i64 s.n, .int .u64 s.v, .int .i64 s.l, .int .i64 s.t] 46)).alloc (.cells #[.int .i64 0, .int .u64 0, .int .i64 0, .int .i64 0] 46) = wa at HB HS HY hz0
  obtain ⟨a0, a1, a2, a3⟩ := HS.out.cells
  go_wp2_with fail
  refine (HVD.out _).mono ?_; rintro e w1 ⟨rfl, hb1⟩
  have HB1 := Lib.hid (HB.out.trans (hb1.mono HB.out.size)); have HS1 := Lib.hid (HS.out.later hb1); have HY1 := Lib.hid (HY.out.later hb1)
  have hz1 : w.heap.size + 1 < w1.heap.size := Nat.lt_of_lt_of_le hz0 hb1.size
  clear hb1 HB HS HY hz0 hwa a0 a1 a2 a3
  obtain ⟨a0, a1, a2, a3⟩ := HS1.out.cells
  obtain ⟨y0, y1, y2, y3⟩ := HY1.out.cells
  obtain ⟨f0, f1, f2, f3⟩ := HY1.out.free
  go_wp2_with fail
  refine (HBV.out _).mono ?_; rintro e wx ⟨rfl, rfl⟩
  have hz2 : w.heap.size < wx.heap.size := by omega
  have hb2 := HB1.out.alloc HB1.out.size (.cells #[.int .i64 ((s.n : Int) + 1), .int .u64 v, .int .i64 s.l, .int .i64 s.t] 46)
  have HB2 := Lib.hid hb2; clear hb2
  have hys : RVStAt ((((wx.setCell ⟨w.heap.size + 1, 0, none⟩ (.int .i64 ((s.n : Int) + 1))).setCell ⟨w.heap.size + 1, 1, none⟩ (.int .u64 v)).setCell ⟨w.heap.size + 1, 2, none⟩ (.int .i64 s.l)).setCell ⟨w.heap.size + 1, 3, none⟩ (.int .i64 s.t)) (w.heap.size + 1) ⟨s.n + 1, v, s.l, s.t⟩ := HY1.out.set ⟨s.n + 1, v, s.l, s.t⟩
  have hye := (hys.later ((Below.refl _ _).alloc (Nat.le_refl _) (.cells #[.int .i64 ((s.n : Int) + 1), .int .u64 v, .int .i64 s.l, .int .i64 s.t] 46))).cells
  have hgr := grown_four wx (w.heap.size + 1) 0 1 2 3 (.int .i64 ((s.n : Int) + 1)) (.int .u64 v) (.int .i64 s.l) (.int .i64 s.t)
  have hbe := Below.drew ((HB1.out.grown hgr HB1.out.size (fun r e => by cases e; omega)).alloc (Nat.le_trans HB1.out.size hgr.size) (.cells #[.int .i64 ((s.n : Int) + 1), .int .u64 v, .int .i64 s.l, .int .i64 s.t] 46))
  have HYE := Lib.hid hye; have HBE := Lib.hid hbe
  clear hys hye hgr hbe
  by_cases h0 : s.n = 0
  · have d0 : ((s.n : Int) == 0) = true := by simp [h0]
    have HC : Hid (s.code v = Bit.of v 64) := Lib.hid (by unfold Va.S.code; rw [if_pos (Va.way_zero.2 h0)])
    have HNX : Hid (s.next v = ⟨s.n + 1, v, s.l, s.t⟩) := Lib.hid (by unfold Va.S.next; rw [if_neg (by rw [Va.way_zero.2 h0]; decide)])
    clear h0
    go_wp2_with fail
    go_region
    go_wp2_with fail
    refine bodyPost_ret (v := .tuple #[.string (Bit.str (Bit.of v 64)), .agg #[.int .i64 ((s.n : Int) + 1), .int .u64 v, .int .i64 s.l, .int .i64 s.t]]) ?_ rfl ⟨by rw [HC.out, HNX.out]; rfl, ?_⟩
    · obtain ⟨e0, e1', e2, e3⟩ := HYE.out
      simp only [Int.natCast_add, Int.cast_ofNat_Int] at e0
      simp [results, go_sem, e0, e1', e2, e3]
      try rfl
    · exact HBE.out
  · have d0 : ((s.n : Int) == 0) = false := by simp [h0]
    by_cases hx : v ^^^ s.v = 0
    · have hw1 : Va.way s (v ^^^ s.v) = 1 := Va.way_one.2 ⟨h0, hx⟩
      have HC : Hid (s.code v = Bit.of 0 1) := Lib.hid (by unfold Va.S.code; rw [hw1, if_neg (by decide), if_pos rfl])
      have HNX : Hid (s.next v = ⟨s.n + 1, v, s.l, s.t⟩) := Lib.hid (by unfold Va.S.next; rw [hw1, if_neg (by decide)])
      have dx : (((v ^^^ s.v : Nat) : Int) == 0) = true := by simp [hx]
      have m0 : (⟨#[48]⟩ : ByteArray) = Bit.str (Bit.of 0 1) := by decide +kernel
      clear h0 hw1
      generalize v ^^^ s.v = x at *
      clear hx hxl
      go_wp2_with fail
      go_region
      go_wp2_with fail
      refine bodyPost_ret (v := .tuple #[.string ⟨#[48]⟩, .agg #[.int .i64 ((s.n : Int) + 1), .int .u64 v, .int .i64 s.l, .int .i64 s.t]]) ?_ rfl ⟨by rw [HC.out, HNX.out, ← m0]; rfl, ?_⟩
      · obtain ⟨e0, e1', e2, e3⟩ := HYE.out
        simp only [Int.natCast_add, Int.cast_ofNat_Int] at e0
        simp [results, go_sem, e0, e1', e2, e3]
        try rfl
      · exact HBE.out
    · have dx : (((v ^^^ s.v : Nat) : Int) == 0) = false := by simp; omega
      have HXL := Lib.hid hxl
      have HLD : Hid (∀ W, Calls Tryd.prog 40 #[.int .u64 ((v ^^^ s.v : Nat) : Int)] W fun e w' => e = .returned (.int .i64 (Va.lead (v ^^^ s.v) : Nat)) ∧ w' = W) := Lib.hid (fun W => (rLead_any _ HXL W).mono (fun e w' ⟨h, h2⟩ => ⟨by rw [h]; have h3 := (Lib.bitLenAux_bounds 64 (v ^^^ s.v) hxl (by omega)).1; congr 2; unfold Va.lead; have h4 := Lib.bitLen_le (v ^^^ s.v) 64 (by omega) (by omega); omega, h2⟩))
      have HTR : Hid (∀ W, Calls Tryd.prog 41 #[.int .u64 ((v ^^^ s.v : Nat) : Int)] W fun e w' => e = .returned (.int .i64 (Va.trail (v ^^^ s.v) : Nat)) ∧ w' = W) := Lib.hid (fun W => rTrail_any _ HXL W)
      have hbx := fun W => rBits_any (v ^^^ s.v) HXL 64 W
      rw [hw64] at hbx
      have HBX := Lib.hid hbx; clear hbx
      have hends := (Va.ends hxl hx).1
      have hsl : s.l + s.t ≤ 64 := by have := HOK.out.w; omega
      have hpc := Va.piece (v ^^^ s.v) s.l s.t hsl
      have hsz : (Bit.str (Bit.of (v ^^^ s.v) 64)).size = 64 := by rw [Bit.str_size, Bit.of_length]
      by_cases hwin : s.l ≠ 64 ∧ s.l ≤ Va.lead (v ^^^ s.v) ∧ s.t ≤ Va.trail (v ^^^ s.v)
      · have hw1 : Va.way s (v ^^^ s.v) = 2 := Va.way_two.2 ⟨h0, hx, hwin⟩
        have HC : Hid (s.code v = Bit.of 2 2 ++ Bit.of ((v ^^^ s.v) / 2 ^ s.t) (64 - s.l - s.t)) := Lib.hid (by unfold Va.S.code; rw [hw1, if_neg (by decide), if_neg (by decide), if_pos rfl]; rfl)
        have HNX : Hid (s.next v = ⟨s.n + 1, v, s.l, s.t⟩) := Lib.hid (by unfold Va.S.next; rw [hw1, if_neg (by decide)])
        have m0 : Bit.str (Bit.of 2 2) = (⟨#[49, 48]⟩ : ByteArray) := by decide +kernel
        have dl : decide ((s.l : Int) < 64) = true := by simp; have := HOK.out.w; omega
        have dl2 : decide ((s.l : Int) ≤ (Va.lead (v ^^^ s.v) : Nat)) = true := by simp; omega
        have dt2 : decide ((s.t : Int) ≤ (Va.trail (v ^^^ s.v) : Nat)) = true := by simp; omega
        have dl3 : s.l ≤ Va.lead (v ^^^ s.v) := hwin.2.1
        have dt3 : s.t ≤ Va.trail (v ^^^ s.v) := hwin.2.2
        have dl4 : s.l < 64 := by have := HOK.out.w; omega
        have ew : wrap64 (64 - (s.t : Int)) = ((64 - s.t : Nat) : Int) := by rw [IntWalk.wrap64_in _ (by omega)]; omega
        have HPC : Hid ((Bit.str (Bit.of (v ^^^ s.v) 64)).extract s.l (64 - s.t) = Bit.str (Bit.of ((v ^^^ s.v) / 2 ^ s.t) (64 - s.l - s.t))) := Lib.hid hpc
        have HW1 := Lib.hid hwin
        clear h0 hw1 hwin hpc
        generalize Va.lead (v ^^^ s.v) = ld at *
        generalize Va.trail (v ^^^ s.v) = tr at *
        generalize hbs : Bit.str (Bit.of (v ^^^ s.v) 64) = bs at *
        clear hbs
        generalize v ^^^ s.v = x at *
        clear hxl
        go_wp2_with fail
        refine (HLD.out _).mono ?_; rintro e wy ⟨rfl, rfl⟩
        go_wp2_with fail
        refine (HTR.out _).mono ?_; rintro e wz ⟨rfl, rfl⟩
        go_wp2_with fail
        refine (HBX.out _).mono ?_; rintro e wu ⟨rfl, rfl⟩
        go_upto_region 16 with fail
        go_region
        go_wp2_with fail
        refine bodyPost_ret (v := .tuple #[.string (⟨#[49, 48]⟩ ++ bs.extract s.l (64 - s.t)), .agg #[.int .i64 ((s.n : Int) + 1), .int .u64 v, .int .i64 s.l, .int .i64 s.t]]) ?_ rfl ⟨by rw [HC.out, HNX.out, ← Bit.str_append, m0, ← HPC.out]; rfl, ?_⟩
        · obtain ⟨e0, e1', e2, e3⟩ := HYE.out
          simp only [Int.natCast_add, Int.cast_ofNat_Int] at e0
          simp [results, go_sem, e0, e1', e2, e3]
          try rfl
        · exact HBE.out
      · exfalso
        have h4 := Va.way_lt s (v ^^^ s.v)
        have n0 : Va.way s (v ^^^ s.v) ≠ 0 := fun e => h0 (Va.way_zero.1 e)
        have n1 : Va.way s (v ^^^ s.v) ≠ 1 := fun e => hx (Va.way_one.1 e).2
        have n2 : Va.way s (v ^^^ s.v) ≠ 2 := fun e => hwin (Va.way_two.1 e).2.2
        have n3 := hno3.out
        omega
end Go.Proofs.YtahdfcflgicpkaaDoor
