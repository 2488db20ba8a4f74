import Derived.Test.YtfgcgjogaaofdaaGreatDoorVaA
import Derived.Test.YtfgcgjogaaofdaaGreatDoorCom
import Derived.Test.YtfgcgjogaaofdaaGreatDoorBitL
import Derived.Test.YtfgcgjogaaofdaaGreatDoorVaI
/-
  What Begin and Valid of the document's answer for package value come to.
-/
namespace Go.Proofs.YtfgcgjogaaofdaaGreatDoor
open Go.RowKit
def RVStAt (W : World) (g : Nat) (s : Va.S) : Prop := W.heap[g]? = some (.cells #[.int .i64 s.n, .int .u64 s.v, .int .i64 s.l, .int .i64 s.t] 62 (0, 0))
theorem RVStAt.lt {W : World} {g : Nat} {s : Va.S} (h : RVStAt W g s) : g < W.heap.size := (Array.getElem?_eq_some_iff.1 h).1
theorem RVStAt.later {W W2 : World} {g : Nat} {s : Va.S} (h : RVStAt W g s) (hb : Below W.heap.size W W2) : RVStAt W2 g s := (hb.block g h.lt).trans h
theorem RVStAt.cells {W : World} {g : Nat} {s : Va.S} (h : RVStAt W g s) : W.cell? ⟨g, 0, none⟩ = some (.int .i64 s.n) ∧ W.cell? ⟨g, 1, none⟩ = some (.int .u64 s.v) ∧ W.cell? ⟨g, 2, none⟩ = some (.int .i64 s.l) ∧ W.cell? ⟨g, 3, none⟩ = some (.int .i64 s.t) :=
  ⟨cell_of_row _ _ 0 _ _ _ h, cell_of_row _ _ 1 _ _ _ h, cell_of_row _ _ 2 _ _ _ h, cell_of_row _ _ 3 _ _ _ h⟩
theorem RVStAt.free {W : World} {g : Nat} {s : Va.S} (h : RVStAt W g s) : W.frozen? ⟨g, 0, none⟩ = false ∧ W.frozen? ⟨g, 1, none⟩ = false ∧ W.frozen? ⟨g, 2, none⟩ = false ∧ W.frozen? ⟨g, 3, none⟩ = false :=
  ⟨frozen_of_row _ _ _ _ _ h, frozen_of_row _ _ _ _ _ h, frozen_of_row _ _ _ _ _ h, frozen_of_row _ _ _ _ _ h⟩
theorem RVStAt.set {W : World} {g : Nat} {s : Va.S} (h : RVStAt W g s) (x : Va.S) : RVStAt ((((W.setCell ⟨g, 0, none⟩ (.int .i64 x.n)).setCell ⟨g, 1, none⟩ (.int .u64 x.v)).setCell ⟨g, 2, none⟩ (.int .i64 x.l)).setCell ⟨g, 3, none⟩ (.int .i64 x.t)) g x := by
  unfold RVStAt at *
  simp [World.setCell, Array.getElem?_modify, h]
theorem RVStAt.window {W : World} {g : Nat} {s : Va.S} (h : RVStAt W g s) (l t : Nat) : RVStAt ((W.setCell ⟨g, 2, none⟩ (.int .i64 l)).setCell ⟨g, 3, none⟩ (.int .i64 t)) g ⟨s.n, s.v, l, t⟩ := by
  unfold RVStAt at *
  simp [World.setCell, Array.getElem?_modify, h]
theorem RVStAt.grown {W W2 : World} {g : Nat} {s : Va.S} {row : Option Nat} (h : RVStAt W g s) (hg : W.grownBy W2 row) (hne : some g ≠ row) : RVStAt W2 g s := (hg.block g h.lt hne).trans h
set_option maxRecDepth 100000 in
set_option maxHeartbeats 1000000 in
theorem rVBegin_any (w : World) :
    Calls Tryz.prog 28 #[] w fun e w' => e = .returned (Va.S.val ⟨0, 0, 64, 0⟩) ∧ Below w.heap.size w w' := by
  go_enter Tryz.func28, Tryz.ntmps28
  go_wp2_with fail
  refine bodyPost_ret (v := .agg #[.int .i64 0, .int .u64 0, .int .i64 64, .int .i64 0]) ?_ rfl ⟨rfl, ?_⟩
  · simp [results, go_sem]
    try rfl
  · exact (Below.refl _ _).alloc (Nat.le_refl _) _
set_option maxRecDepth 100000 in
set_option maxHeartbeats 1000000 in
theorem rVValid_any (s : Va.S) (hok : s.ok) (w : World) :
    Calls Tryz.prog 40 #[s.val] w fun e w' => e = .returned (.bool true) ∧ Below w.heap.size w w' := by
  obtain ⟨n, v, l, t⟩ := s
  have hw := hok.w
  have hn := hok.n
  unfold Va.S.val
  simp only at hw hn ⊢
  have HB : Hid (Below w.heap.size w (w.alloc (.cells #[.int .i64 n, .int .u64 v, .int .i64 l, .int .i64 t] 62))) := Lib.hid ((Below.refl _ _).alloc (Nat.le_refl _) _)
  have d0 : decide ((n : Int) < 0) = false := by simp
  have d1 : decide ((l : Int) < 0) = false := by simp
  have d2 : decide ((t : Int) < 0) = false := by simp
  rcases hw with ⟨rfl, rfl⟩ | hlt
  · go_enter Tryz.func40, Tryz.ntmps40
    go_wp2_with fail
    go_ret
    exact ⟨rfl, HB.out⟩
  · have d3 : decide ((l : Int) < 64) = true := by simp; omega
    have d4 : decide ((t : Int) < 64) = true := by simp; omega
    have d5 : decide ((l : Int) + (t : Int) < 64) = true := by simp; omega
    go_enter Tryz.func40, Tryz.ntmps40
    go_wp2_with fail
    go_ret
    exact ⟨rfl, HB.out⟩
/-- a piece of the sixty four bits is the window's bits -/
theorem Va.piece (x l t : Nat) (h : l + t ≤ 64) : (Bit.str (Bit.of x 64)).extract l (64 - t) = Bit.str (Bit.of (x / 2 ^ t) (64 - l - t)) := by
  rw [Bit.str_extract]
  congr 1
  have e1 : Bit.of x 64 = Bit.of (x / 2 ^ (64 - l)) l ++ (Bit.of (x / 2 ^ t) (64 - l - t) ++ Bit.of x t) := by
    rw [← Bit.of_append x (64 - l - t) t, show 64 - l - t + t = 64 - l from by omega, ← Bit.of_append x l (64 - l), show l + (64 - l) = 64 from by omega]
  rw [e1, List.drop_left' (Bit.of_length _ _), List.take_left' (by rw [Bit.of_length]; omega)]
end Go.Proofs.YtfgcgjogaaofdaaGreatDoor
/-
  What Put of the document's answer for package value comes to, but for a fresh window (way 3).
-/
namespace Go.Proofs.YtfgcgjogaaofdaaGreatDoor
open Go.RowKit
set_option maxRecDepth 100000 in
set_option maxHeartbeats 4000000 in
theorem rVPut_but3 (s : Va.S) (hok : s.ok) (hn : s.n < 2199023255552) (v : Nat) (hv : v < 18446744073709551616) (hno3 : Hid (Va.way s (v ^^^ s.v) ≠ 3)) (w : World) :
    Calls Tryz.prog 29 #[s.val, .int .u64 v] w fun e w' => e = .returned (.tuple #[.string (Bit.str (s.code v)), (s.next v).val]) ∧ Below w.heap.size w w' := by
  have hval : ∀ s : Va.S, s.val = .agg #[.int .i64 s.n, .int .u64 s.v, .int .i64 s.l, .int .i64 s.t] := fun _ => rfl
  have hvd := fun W => rVValid_any s hok W
  rw [hval] at hvd
  have HVD := Lib.hid hvd; clear hvd
  have hb0 : Below w.heap.size w ((w.alloc (.cells #[.int .i64 s.n, .int .u64 s.v, .int .i64 s.l, .int .i64 s.t] 62)).alloc (.cells #[.int .i64 0, .int .u64 0, .int .i64 0, .int .i64 0] 62)) := ((Below.refl _ _).alloc (Nat.le_refl _) _).alloc (by simp) _
  have hs0 : RVStAt (w.alloc (.cells #[.int .i64 s.n, .int .u64 s.v, .int .i64 s.l, .int .i64 s.t] 62)) w.heap.size s := RowIs.one _ _
  have hs1 := hs0.later ((Below.refl _ _).alloc (Nat.le_refl _) (.cells #[.int .i64 0, .int .u64 0, .int .i64 0, .int .i64 0] 62))
  have hy1 : RVStAt ((w.alloc (.cells #[.int .i64 s.n, .int .u64 s.v, .int .i64 s.l, .int .i64 s.t] 62)).alloc (.cells #[.int .i64 0, .int .u64 0, .int .i64 0, .int .i64 0] 62)) (w.heap.size + 1) ⟨0, 0, 0, 0⟩ := by
    have h : (w.alloc (.cells #[.int .i64 s.n, .int .u64 s.v, .int .i64 s.l, .int .i64 s.t] 62)).heap.size = w.heap.size + 1 := by simp
    rw [← h]; exact RowIs.one _ _
  have hz0 : w.heap.size + 1 < ((w.alloc (.cells #[.int .i64 s.n, .int .u64 s.v, .int .i64 s.l, .int .i64 s.t] 62)).alloc (.cells #[.int .i64 0, .int .u64 0, .int .i64 0, .int .i64 0] 62)).heap.size := by simp
  have HB := Lib.hid hb0; have HS := Lib.hid hs1; have HY := Lib.hid hy1
  clear hb0 hs0 hs1 hy1
  have HV := Lib.hid hv
  have hw64 : Bit.wd 64 = 64 := rfl
  have hbits := fun W => rBits_any v HV 64 W
  rw [hw64] at hbits
  have HBV := Lib.hid hbits; clear hbits
  have e1 : wrap64 ((s.n : Int) + 1) = (s.n : Int) + 1 := IntWalk.wrap64_in _ (by omega)
  have hxx := u64_xor_nat v s.v hv hok.v
  have hxl := Va.xor_lt hv hok.v
  have HOK := Lib.hid hok; clear hok
  rw [hval s]
  go_enter Tryz.func29, Tryz.ntmps29
  generalize hwa : (w.alloc (.cells #[.int .i64 s.n, .int .u64 s.v, .int .i64 s.l, .int .i64 s.t] 62)).alloc (.cells #[.int .i64 0, .int .u64 0, .int .i64 0, .int .i64 0] 62) = wa at HB HS HY hz0
  obtain ⟨a0, a1, a2, a3⟩ := HS.out.cells
  go_wp2_with fail
  refine (HVD.out _).mono ?_; rintro e w1 ⟨rfl, hb1⟩
  have HB1 := Lib.hid (HB.out.trans (hb1.mono HB.out.size)); have HS1 := Lib.hid (HS.out.later hb1); have HY1 := Lib.hid (HY.out.later hb1)
  have hz1 : w.heap.size + 1 < w1.heap.size := Nat.lt_of_lt_of_le hz0 hb1.size
  clear hb1 HB HS HY hz0 hwa a0 a1 a2 a3
  obtain ⟨a0, a1, a2, a3⟩ := HS1.out.cells
  obtain ⟨y0, y1, y2, y3⟩ := HY1.out.cells
  obtain ⟨f0, f1, f2, f3⟩ := HY1.out.free
  go_wp2_with fail
  refine (HBV.out _).mono ?_; rintro e wx ⟨rfl, rfl⟩
  have hz2 : w.heap.size < wx.heap.size := by omega
  have hb2 := HB1.out.alloc HB1.out.size (.cells #[.int .i64 ((s.n : Int) + 1), .int .u64 v, .int .i64 s.l, .int .i64 s.t] 62)
  have HB2 := Lib.hid hb2; clear hb2
  have hys : RVStAt ((((wx.setCell ⟨w.heap.size + 1, 0, none⟩ (.int .i64 ((s.n : Int) + 1))).setCell ⟨w.heap.size + 1, 1, none⟩ (.int .u64 v)).setCell ⟨w.heap.size + 1, 2, none⟩ (.int .i64 s.l)).setCell ⟨w.heap.size + 1, 3, none⟩ (.int .i64 s.t)) (w.heap.size + 1) ⟨s.n + 1, v, s.l, s.t⟩ := HY1.out.set ⟨s.n + 1, v, s.l, s.t⟩
  have hye := (hys.later ((Below.refl _ _).alloc (Nat.le_refl _) (.cells #[.int .i64 ((s.n : Int) + 1), .int .u64 v, .int .i64 s.l, .int .i64 s.t] 62))).cells
  have hgr := grown_four wx (w.heap.size + 1) 0 1 2 3 (.int .i64 ((s.n : Int) + 1)) (.int .u64 v) (.int .i64 s.l) (.int .i64 s.t)
  have hbe := Below.drew ((HB1.out.grown hgr HB1.out.size (fun r e => by cases e; omega)).alloc (Nat.le_trans HB1.out.size hgr.size) (.cells #[.int .i64 ((s.n : Int) + 1), .int .u64 v, .int .i64 s.l, .int .i64 s.t] 62))
  have HYE := Lib.hid hye; have HBE := Lib.hid hbe
  clear hys hye hgr hbe
  by_cases h0 : s.n = 0
  · have d0 : ((s.n : Int) == 0) = true := by simp [h0]
    have HC : Hid (s.code v = Bit.of v 64) := Lib.hid (by unfold Va.S.code; rw [if_pos (Va.way_zero.2 h0)])
    have HNX : Hid (s.next v = ⟨s.n + 1, v, s.l, s.t⟩) := Lib.hid (by unfold Va.S.next; rw [if_neg (by rw [Va.way_zero.2 h0]; decide)])
    clear h0
    go_wp2_with fail
    go_region
    go_wp2_with fail
    refine bodyPost_ret (v := .tuple #[.string (Bit.str (Bit.of v 64)), .agg #[.int .i64 ((s.n : Int) + 1), .int .u64 v, .int .i64 s.l, .int .i64 s.t]]) ?_ rfl ⟨by rw [HC.out, HNX.out]; rfl, ?_⟩
    · obtain ⟨e0, e1', e2, e3⟩ := HYE.out
      simp only [Int.natCast_add, Int.cast_ofNat_Int] at e0
      simp [results, go_sem, e0, e1', e2, e3]
      try rfl
    · exact HBE.out
  · have d0 : ((s.n : Int) == 0) = false := by simp [h0]
    by_cases hx : v ^^^ s.v = 0
    · have hw1 : Va.way s (v ^^^ s.v) = 1 := Va.way_one.2 ⟨h0, hx⟩
      have HC : Hid (s.code v = Bit.of 0 1) := Lib.hid (by unfold Va.S.code; rw [hw1, if_neg (by decide), if_pos rfl])
      have HNX : Hid (s.next v = ⟨s.n + 1, v, s.l, s.t⟩) := Lib.hid (by unfold Va.S.next; rw [hw1, if_neg (by decide)])
      have dx : (((v ^^^ s.v : Nat) : Int) == 0) = true := by simp [hx]
      have m0 : (⟨#[48]⟩ : ByteArray) = Bit.str (Bit.of 0 1) := by decide +kernel
      clear h0 hw1
      generalize v ^^^ s.v = x at *
      clear hx hxl
      go_wp2_with fail
      go_region
      go_wp2_with fail
      refine bodyPost_ret (v := .tuple #[.string ⟨#[48]⟩, .agg #[.int .i64 ((s.n : Int) + 1), .int .u64 v, .int .i64 s.l, .int .i64 s.t]]) ?_ rfl ⟨by rw [HC.out, HNX.out, ← m0]; rfl, ?_⟩
      · obtain ⟨e0, e1', e2, e3⟩ := HYE.out
        simp only [Int.natCast_add, Int.cast_ofNat_Int] at e0
        simp [results, go_sem, e0, e1', e2, e3]
        try rfl
      · exact HBE.out
    · have dx : (((v ^^^ s.v : Nat) : Int) == 0) = false := by simp; omega
      have HXL := Lib.hid hxl
      have HLD : Hid (∀ W, Calls Tryz.prog 42 #[.int .u64 ((v ^^^ s.v : Nat) : Int)] W fun e w' => e = .returned (.int .i64 (Va.lead (v ^^^ s.v) : Nat)) ∧ w' = W) := Lib.hid (fun W => (rLead_any _ HXL W).mono (fun e w' ⟨h, h2⟩ => ⟨by rw [h]; have h3 := (Lib.bitLenAux_bounds 64 (v ^^^ s.v) hxl (by omega)).1; congr 2; unfold Va.lead; have h4 := Lib.bitLen_le (v ^^^ s.v) 64 (by omega) (by omega); omega, h2⟩))
      have HTR : Hid (∀ W, Calls Tryz.prog 43 #[.int .u64 ((v ^^^ s.v : Nat) : Int)] W fun e w' => e = .returned (.int .i64 (Va.trail (v ^^^ s.v) : Nat)) ∧ w' = W) := Lib.hid (fun W => rTrail_any _ HXL W)
      have hbx := fun W => rBits_any (v ^^^ s.v) HXL 64 W
      rw [hw64] at hbx
      have HBX := Lib.hid hbx; clear hbx
      have hends := (Va.ends hxl hx).1
      have hsl : s.l + s.t ≤ 64 := by have := HOK.out.w; omega
      have hpc := Va.piece (v ^^^ s.v) s.l s.t hsl
      have hsz : (Bit.str (Bit.of (v ^^^ s.v) 64)).size = 64 := by rw [Bit.str_size, Bit.of_length]
      by_cases hwin : s.l ≠ 64 ∧ s.l ≤ Va.lead (v ^^^ s.v) ∧ s.t ≤ Va.trail (v ^^^ s.v)
      · have hw1 : Va.way s (v ^^^ s.v) = 2 := Va.way_two.2 ⟨h0, hx, hwin⟩
        have HC : Hid (s.code v = Bit.of 2 2 ++ Bit.of ((v ^^^ s.v) / 2 ^ s.t) (64 - s.l - s.t)) := Lib.hid (by unfold Va.S.code; rw [hw1, if_neg (by decide), if_neg (by decide), if_pos rfl]; rfl)
        have HNX : Hid (s.next v = ⟨s.n + 1, v, s.l, s.t⟩) := Lib.hid (by unfold Va.S.next; rw [hw1, if_neg (by decide)])
        have m0 : Bit.str (Bit.of 2 2) = (⟨#[49, 48]⟩ : ByteArray) := by decide +kernel
        have dl : decide ((s.l : Int) < 64) = true := by simp; have := HOK.out.w; omega
        have dl2 : decide ((s.l : Int) ≤ (Va.lead (v ^^^ s.v) : Nat)) = true := by simp; omega
        have dt2 : decide ((s.t : Int) ≤ (Va.trail (v ^^^ s.v) : Nat)) = true := by simp; omega
        have dl3 : s.l ≤ Va.lead (v ^^^ s.v) := hwin.2.1
        have dt3 : s.t ≤ Va.trail (v ^^^ s.v) := hwin.2.2
        have dl4 : s.l < 64 := by have := HOK.out.w; omega
        have ew : wrap64 (64 - (s.t : Int)) = ((64 - s.t : Nat) : Int) := by rw [IntWalk.wrap64_in _ (by omega)]; omega
        have HPC : Hid ((Bit.str (Bit.of (v ^^^ s.v) 64)).extract s.l (64 - s.t) = Bit.str (Bit.of ((v ^^^ s.v) / 2 ^ s.t) (64 - s.l - s.t))) := Lib.hid hpc
        have HW1 := Lib.hid hwin
        clear h0 hw1 hwin hpc
        generalize Va.lead (v ^^^ s.v) = ld at *
        generalize Va.trail (v ^^^ s.v) = tr at *
        generalize hbs : Bit.str (Bit.of (v ^^^ s.v) 64) = bs at *
        clear hbs
        generalize v ^^^ s.v = x at *
        clear hxl
        go_wp2_with fail
        refine (HLD.out _).mono ?_; rintro e wy ⟨rfl, rfl⟩
        go_wp2_with fail
        refine (HTR.out _).mono ?_; rintro e wz ⟨rfl, rfl⟩
        go_wp2_with fail
        refine (HBX.out _).mono ?_; rintro e wu ⟨rfl, rfl⟩
        go_upto_region 16 with fail
        go_region
        go_wp2_with fail
        refine bodyPost_ret (v := .tuple #[.string (⟨#[49, 48]⟩ ++ bs.extract s.l (64 - s.t)), .agg #[.int .i64 ((s.n : Int) + 1), .int .u64 v, .int .i64 s.l, .int .i64 s.t]]) ?_ rfl ⟨by rw [HC.out, HNX.out, ← Bit.str_append, m0, ← HPC.out]; rfl, ?_⟩
        · obtain ⟨e0, e1', e2, e3⟩ := HYE.out
          simp only [Int.natCast_add, Int.cast_ofNat_Int] at e0
          simp [results, go_sem, e0, e1', e2, e3]
          try rfl
        · exact HBE.out
      · exfalso
        have h4 := Va.way_lt s (v ^^^ s.v)
        have n0 : Va.way s (v ^^^ s.v) ≠ 0 := fun e => h0 (Va.way_zero.1 e)
        have n1 : Va.way s (v ^^^ s.v) ≠ 1 := fun e => hx (Va.way_one.1 e).2
        have n2 : Va.way s (v ^^^ s.v) ≠ 2 := fun e => hwin (Va.way_two.1 e).2.2
        have n3 := hno3.out
        omega
end Go.Proofs.YtfgcgjogaaofdaaGreatDoor
/-
  What Put of the document's answer for package value comes to: a fresh window (way 3), and so every way.
-/
namespace Go.Proofs.YtfgcgjogaaofdaaGreatDoor
open Go.RowKit
/-- what Put carries along -/
structure PutHeld (w : World) (gy : Nat) (z y : Va.S) (W : World) : Prop where
  st : RVStAt W (w.heap.size + 1) z
  nx : RVStAt W gy y
  bel : Below w.heap.size w W
theorem PutHeld.drew {w W : World} {gy : Nat} {z y : Va.S} (h : PutHeld w gy z y W) : PutHeld w gy z y W.drew := ⟨h.st, h.nx, h.bel.drew⟩
set_option maxRecDepth 100000 in
set_option maxHeartbeats 4000000 in
theorem rVPut_3 (s : Va.S) (hok : s.ok) (hn : s.n < 2199023255552) (v : Nat) (hv : v < 18446744073709551616) (h3 : Va.way s (v ^^^ s.v) = 3) (w : World) :
    Calls Tryz.prog 29 #[s.val, .int .u64 v] w fun e w' => e = .returned (.tuple #[.string (Bit.str (s.code v)), (s.next v).val]) ∧ Below w.heap.size w w' := by
  have hval : ∀ s : Va.S, s.val = .agg #[.int .i64 s.n, .int .u64 s.v, .int .i64 s.l, .int .i64 s.t] := fun _ => rfl
  have hvd := fun W => rVValid_any s hok W
  rw [hval] at hvd
  have HVD := Lib.hid hvd; clear hvd
  have hb0 : Below w.heap.size w ((w.alloc (.cells #[.int .i64 s.n, .int .u64 s.v, .int .i64 s.l, .int .i64 s.t] 62)).alloc (.cells #[.int .i64 0, .int .u64 0, .int .i64 0, .int .i64 0] 62)) := ((Below.refl _ _).alloc (Nat.le_refl _) _).alloc (by simp) _
  have hs0 : RVStAt (w.alloc (.cells #[.int .i64 s.n, .int .u64 s.v, .int .i64 s.l, .int .i64 s.t] 62)) w.heap.size s := RowIs.one _ _
  have hs1 := hs0.later ((Below.refl _ _).alloc (Nat.le_refl _) (.cells #[.int .i64 0, .int .u64 0, .int .i64 0, .int .i64 0] 62))
  have hy1 : RVStAt ((w.alloc (.cells #[.int .i64 s.n, .int .u64 s.v, .int .i64 s.l, .int .i64 s.t] 62)).alloc (.cells #[.int .i64 0, .int .u64 0, .int .i64 0, .int .i64 0] 62)) (w.heap.size + 1) ⟨0, 0, 0, 0⟩ := by
    have h : (w.alloc (.cells #[.int .i64 s.n, .int .u64 s.v, .int .i64 s.l, .int .i64 s.t] 62)).heap.size = w.heap.size + 1 := by simp
    rw [← h]; exact RowIs.one _ _
  have hz0 : w.heap.size + 1 < ((w.alloc (.cells #[.int .i64 s.n, .int .u64 s.v, .int .i64 s.l, .int .i64 s.t] 62)).alloc (.cells #[.int .i64 0, .int .u64 0, .int .i64 0, .int .i64 0] 62)).heap.size := by simp
  have HB := Lib.hid hb0; have HS := Lib.hid hs1; have HY := Lib.hid hy1
  clear hb0 hs0 hs1 hy1
  have HV := Lib.hid hv
  have hw64 : Bit.wd 64 = 64 := rfl
  have hbits := fun W => rBits_any v HV 64 W
  rw [hw64] at hbits
  have HBV := Lib.hid hbits; clear hbits
  have e1 : wrap64 ((s.n : Int) + 1) = (s.n : Int) + 1 := IntWalk.wrap64_in _ (by omega)
  have hxx := u64_xor_nat v s.v hv hok.v
  have hxl := Va.xor_lt hv hok.v
  have HOK := Lib.hid hok; clear hok
  rw [hval s]
  go_enter Tryz.func29, Tryz.ntmps29
  generalize hwa : (w.alloc (.cells #[.int .i64 s.n, .int .u64 s.v, .int .i64 s.l, .int .i64 s.t] 62)).alloc (.cells #[.int .i64 0, .int .u64 0, .int .i64 0, .int .i64 0] 62) = wa at HB HS HY hz0
  obtain ⟨a0, a1, a2, a3⟩ := HS.out.cells
  go_wp2_with fail
  refine (HVD.out _).mono ?_; rintro e w1 ⟨rfl, hb1⟩
  have HB1 := Lib.hid (HB.out.trans (hb1.mono HB.out.size)); have HS1 := Lib.hid (HS.out.later hb1); have HY1 := Lib.hid (HY.out.later hb1)
  have hz1 : w.heap.size + 1 < w1.heap.size := Nat.lt_of_lt_of_le hz0 hb1.size
  clear hb1 HB HS HY hz0 hwa a0 a1 a2 a3
  obtain ⟨a0, a1, a2, a3⟩ := HS1.out.cells
  obtain ⟨y0, y1, y2, y3⟩ := HY1.out.cells
  obtain ⟨f0, f1, f2, f3⟩ := HY1.out.free
  go_wp2_with fail
  refine (HBV.out _).mono ?_; rintro e wx ⟨rfl, rfl⟩
  have hz2 : w.heap.size < wx.heap.size := by omega
  have hb2 := HB1.out.alloc HB1.out.size (.cells #[.int .i64 ((s.n : Int) + 1), .int .u64 v, .int .i64 s.l, .int .i64 s.t] 62)
  have HB2 := Lib.hid hb2; clear hb2
  have hys : RVStAt ((((wx.setCell ⟨w.heap.size + 1, 0, none⟩ (.int .i64 ((s.n : Int) + 1))).setCell ⟨w.heap.size + 1, 1, none⟩ (.int .u64 v)).setCell ⟨w.heap.size + 1, 2, none⟩ (.int .i64 s.l)).setCell ⟨w.heap.size + 1, 3, none⟩ (.int .i64 s.t)) (w.heap.size + 1) ⟨s.n + 1, v, s.l, s.t⟩ := HY1.out.set ⟨s.n + 1, v, s.l, s.t⟩
  have hye := (hys.later ((Below.refl _ _).alloc (Nat.le_refl _) (.cells #[.int .i64 ((s.n : Int) + 1), .int .u64 v, .int .i64 s.l, .int .i64 s.t] 62))).cells
  have hgr := grown_four wx (w.heap.size + 1) 0 1 2 3 (.int .i64 ((s.n : Int) + 1)) (.int .u64 v) (.int .i64 s.l) (.int .i64 s.t)
  have hbe := Below.drew ((HB1.out.grown hgr HB1.out.size (fun r e => by cases e; omega)).alloc (Nat.le_trans HB1.out.size hgr.size) (.cells #[.int .i64 ((s.n : Int) + 1), .int .u64 v, .int .i64 s.l, .int .i64 s.t] 62))
  have HYE := Lib.hid hye; have HBE := Lib.hid hbe
  clear hys hye hgr hbe
  obtain ⟨h0, hx⟩ := Va.way_three h3
  have d0 : ((s.n : Int) == 0) = false := by simp [h0]
  have dx : (((v ^^^ s.v : Nat) : Int) == 0) = false := by simp; omega
  have HXL := Lib.hid hxl
  have HLD : Hid (∀ W, Calls Tryz.prog 42 #[.int .u64 ((v ^^^ s.v : Nat) : Int)] W fun e w' => e = .returned (.int .i64 (Va.lead (v ^^^ s.v) : Nat)) ∧ w' = W) := Lib.hid (fun W => (rLead_any _ HXL W).mono (fun e w' ⟨h, h2⟩ => ⟨by rw [h]; have h3 := (Lib.bitLenAux_bounds 64 (v ^^^ s.v) hxl (by omega)).1; congr 2; unfold Va.lead; have h4 := Lib.bitLen_le (v ^^^ s.v) 64 (by omega) (by omega); omega, h2⟩))
  have HTR : Hid (∀ W, Calls Tryz.prog 43 #[.int .u64 ((v ^^^ s.v : Nat) : Int)] W fun e w' => e = .returned (.int .i64 (Va.trail (v ^^^ s.v) : Nat)) ∧ w' = W) := Lib.hid (fun W => rTrail_any _ HXL W)
  have hbx := fun W => rBits_any (v ^^^ s.v) HXL 64 W
  rw [hw64] at hbx
  have HBX := Lib.hid hbx; clear hbx
  have hends := (Va.ends hxl hx).1
  have hpc := Va.piece (v ^^^ s.v) (Va.lead (v ^^^ s.v)) (Va.trail (v ^^^ s.v)) (by omega)
  have hsz : (Bit.str (Bit.of (v ^^^ s.v) 64)).size = 64 := by rw [Bit.str_size, Bit.of_length]
  have hnw : ¬ (s.l ≠ 64 ∧ s.l ≤ Va.lead (v ^^^ s.v) ∧ s.t ≤ Va.trail (v ^^^ s.v)) := fun h => by have := Va.way_two.2 ⟨h0, hx, h⟩; rw [h3] at this; cases this
  have HNX : Hid (s.next v = ⟨s.n + 1, v, Va.lead (v ^^^ s.v), Va.trail (v ^^^ s.v)⟩) := Lib.hid (by unfold Va.S.next; rw [if_pos h3])
  have HC : Hid (s.code v = Bit.of 3 2 ++ Bit.of (Va.lead (v ^^^ s.v)) 6 ++ Bit.of (64 - Va.lead (v ^^^ s.v) - Va.trail (v ^^^ s.v) - 1) 6 ++ Bit.of ((v ^^^ s.v) / 2 ^ Va.trail (v ^^^ s.v)) (64 - Va.lead (v ^^^ s.v) - Va.trail (v ^^^ s.v))) := Lib.hid (by unfold Va.S.code; rw [h3, if_neg (by decide), if_neg (by decide), if_neg (by decide), HNX.out]; rfl)
  have m0 : Bit.str (Bit.of 3 2) = (⟨#[49, 49]⟩ : ByteArray) := by decide +kernel
  have hw6 : Bit.wd 6 = 6 := rfl
  have hb6 := fun W => rBits_any (Va.lead (v ^^^ s.v)) (Lib.hid (by omega)) 6 W
  have hb7 := fun W => rBits_any (63 - Va.lead (v ^^^ s.v) - Va.trail (v ^^^ s.v)) (Lib.hid (by omega)) 6 W
  rw [hw6] at hb6 hb7
  have HPC := Lib.hid hpc
  have HCX : Hid (Bit.str (s.code v) = ⟨#[49, 49]⟩ ++ Bit.str (Bit.of (Va.lead (v ^^^ s.v)) 6) ++ Bit.str (Bit.of (63 - Va.lead (v ^^^ s.v) - Va.trail (v ^^^ s.v)) 6) ++ (Bit.str (Bit.of (v ^^^ s.v) 64)).extract (Va.lead (v ^^^ s.v)) (64 - Va.trail (v ^^^ s.v))) := Lib.hid (by
    rw [HC.out, HPC.out, ← Bit.str_append, ← Bit.str_append, ← Bit.str_append, m0, show 64 - Va.lead (v ^^^ s.v) - Va.trail (v ^^^ s.v) - 1 = 63 - Va.lead (v ^^^ s.v) - Va.trail (v ^^^ s.v) from by omega])
  have hs1 : (Bit.str (Bit.of (Va.lead (v ^^^ s.v)) 6)).size = 6 := by rw [Bit.str_size, Bit.of_length]
  have hs2 : (Bit.str (Bit.of (63 - Va.lead (v ^^^ s.v) - Va.trail (v ^^^ s.v)) 6)).size = 6 := by rw [Bit.str_size, Bit.of_length]
  have hs3 : ((Bit.str (Bit.of (v ^^^ s.v) 64)).extract (Va.lead (v ^^^ s.v)) (64 - Va.trail (v ^^^ s.v))).size ≤ 64 := by rw [ByteArray.size_extract]; omega
  have HB6 := Lib.hid hb6; have HB7 := Lib.hid hb7
  have HNX2 : Hid ((s.next v).val = .agg #[.int .i64 ((s.n : Int) + 1), .int .u64 v, .int .i64 (Va.lead (v ^^^ s.v)), .int .i64 (Va.trail (v ^^^ s.v))]) := Lib.hid (by rw [HNX.out]; rfl)
  clear HC HPC hpc hb6 hb7 h3 h0 hx HNX
  generalize Va.lead (v ^^^ s.v) = ld at *
  generalize Va.trail (v ^^^ s.v) = tr at *
  generalize Bit.str (Bit.of ld 6) = S1 at *
  generalize Bit.str (Bit.of (63 - ld - tr) 6) = S2 at *
  generalize hbs : Bit.str (Bit.of (v ^^^ s.v) 64) = bs at *
  clear hbs
  generalize v ^^^ s.v = x at *
  clear hxl
  have HW1 := Lib.hid hnw; clear hnw HYE HBE
  go_wp2_with fail
  refine (HLD.out _).mono ?_; rintro e wy ⟨rfl, rfl⟩
  go_wp2_with fail
  refine (HTR.out _).mono ?_; rintro e wz ⟨rfl, rfl⟩
  go_wp2_with fail
  refine (HBX.out _).mono ?_; rintro e wu ⟨rfl, rfl⟩
  go_upto_region 13 with fail
  have hst5 : RVStAt (wx.alloc (.cells #[.int .i64 ((s.n : Int) + 1), .int .u64 v, .int .i64 s.l, .int .i64 s.t] 62)) wx.heap.size ⟨s.n + 1, v, s.l, s.t⟩ := RowIs.one _ _
  have hal : Below wx.heap.size wx (wx.alloc (.cells #[.int .i64 ((s.n : Int) + 1), .int .u64 v, .int .i64 s.l, .int .i64 s.t] 62)) := (Below.refl _ _).alloc (Nat.le_refl _) _
  have hs5 := HS1.out.later hal
  have hh5 : PutHeld w wx.heap.size ⟨0, 0, 0, 0⟩ ⟨s.n + 1, v, s.l, s.t⟩ (wx.alloc (.cells #[.int .i64 ((s.n : Int) + 1), .int .u64 v, .int .i64 s.l, .int .i64 s.t] 62)) := ⟨HY1.out.later hal, hst5, HB2.out⟩
  have HH5 := Lib.hid hh5; have HS5 := Lib.hid hs5
  have hz5 : wx.heap.size < (wx.alloc (.cells #[.int .i64 ((s.n : Int) + 1), .int .u64 v, .int .i64 s.l, .int .i64 s.t] 62)).heap.size := by simp
  clear hst5 hal hs5 hh5 HB1 HS1 HY1 HB2 a0 a1 a2 a3 y0 y1 y2 y3 f0 f1 f2 f3
  generalize wx.alloc (.cells #[.int .i64 ((s.n : Int) + 1), .int .u64 v, .int .i64 s.l, .int .i64 s.t] 62) = w5 at *
  generalize wx.heap.size = gy at *
  obtain ⟨a0, a1, a2, a3⟩ := HS5.out.cells
  go_cut [59] (fun c wc => c = .bool false ∧ wc = w5)
  case first =>
    have hw := HW1.out; have hok2 := HOK.out.w
    by_cases g1 : s.l < 64
    · have dl : decide ((s.l : Int) < 64) = true := by simp; omega
      by_cases g2 : s.l ≤ ld
      · have dl2 : decide ((s.l : Int) ≤ (ld : Int)) = true := by simp; omega
        have g3 : ¬ s.t ≤ tr := fun h => hw ⟨by omega, g2, h⟩
        have dt2 : decide ((s.t : Int) ≤ (tr : Int)) = false := by simp; omega
        go_wp2_with fail
        go_meet
        exact ⟨rfl, rfl⟩
      · have dl2 : decide ((s.l : Int) ≤ (ld : Int)) = false := by simp; omega
        go_wp2_with fail
        go_meet
        exact ⟨rfl, rfl⟩
    · have dl : decide ((s.l : Int) < 64) = false := by simp; omega
      go_wp2_with fail
      go_meet
      exact ⟨rfl, rfl⟩
  case rest =>
    obtain ⟨rfl, rfl⟩ := hcut
    obtain ⟨n0, n1, n2, n3⟩ := HH5.out.nx.cells
    obtain ⟨f0, f1, f2, f3⟩ := HH5.out.nx.free
    go_upto_region 17 with fail
    have hw7 := HH5.out.nx.window ld tr
    have hg7 := grown_two wc gy 2 3 (.int .i64 (ld : Int)) (.int .i64 (tr : Int))
    have hh7 : PutHeld w gy ⟨0, 0, 0, 0⟩ ⟨s.n + 1, v, ld, tr⟩ ((wc.setCell ⟨gy, 2, none⟩ (.int .i64 (ld : Int))).setCell ⟨gy, 3, none⟩ (.int .i64 (tr : Int))) := ⟨HH5.out.st.grown hg7 (by simp; omega), hw7, HH5.out.bel.grown hg7 HH5.out.bel.size (fun r e => by cases e; omega)⟩
    have HH7 := Lib.hid hh7
    clear hw7 hg7 hh7 HH5 HS5 hz5 a0 a1 a2 a3 n0 n1 n2 n3 f0 f1 f2 f3
    generalize (wc.setCell ⟨gy, 2, none⟩ (.int .i64 (ld : Int))).setCell ⟨gy, 3, none⟩ (.int .i64 (tr : Int)) = w7 at *
    have HHd := Lib.hid HH7.out.drew
    refine plain_held (fun U => U.cell? ⟨gy, 0, none⟩ = some (.int .i64 ((s.n : Int) + 1)) ∧ U.cell? ⟨gy, 1, none⟩ = some (.int .u64 v) ∧ U.cell? ⟨gy, 2, none⟩ = some (.int .i64 ld) ∧ U.cell? ⟨gy, 3, none⟩ = some (.int .i64 tr)) (by kernel_rfl) ?_
    have hS : w7.drew.cell? ⟨gy, 0, none⟩ = some (.int .i64 ((s.n : Int) + 1)) ∧ w7.drew.cell? ⟨gy, 1, none⟩ = some (.int .u64 v) ∧ w7.drew.cell? ⟨gy, 2, none⟩ = some (.int .i64 ld) ∧ w7.drew.cell? ⟨gy, 3, none⟩ = some (.int .i64 tr) := HHd.out.nx.cells
    clear HH7
    generalize w7.drew = wd at *
    have c1 : IntKind.u64.wrap (ld : Int) = (ld : Int) := by unfold IntKind.wrap; simp [IntKind.bits]; omega
    have q1 : IntKind.i64.wrap (63 - (ld : Int)) = ((63 - ld : Nat) : Int) := by rw [IntWalk.i64_in _ (by omega)]; omega
    have q2 : IntKind.i64.wrap (((63 - ld : Nat) : Int) - (tr : Int)) = ((63 - ld - tr : Nat) : Int) := by rw [IntWalk.i64_in _ (by omega)]; omega
    have k1 : ld ≤ 64 - tr := by omega
    have k2 : 64 - tr ≤ 64 := by omega
    have k3 : ¬ (64 : Int) < ((64 - tr : Nat) : Int) := by omega
    have k4 : 14 + (64 - tr - ld) ≤ 9223372036854775807 := by omega
    have q3 : IntKind.i64.wrap (64 - (tr : Int)) = ((64 - tr : Nat) : Int) := by rw [IntWalk.i64_in _ (by omega)]; omega
    have c2 : IntKind.u64.wrap ((63 - ld - tr : Nat) : Int) = ((63 - ld - tr : Nat) : Int) := by unfold IntKind.wrap; simp [IntKind.bits]; omega
    refine wpAnyH_pickQ (by kernel_rfl) Only.panic Only.keepsIn (w := wd) hS [0, 1, 2, 3, 4, 5, 6, 7, 8, 9, 10, 11, 12, 13, 14, 15, 16, 17, 18] 1 _ _ (by kernel_rfl) ?_
    refine PickQ.value (d := some 73) (.int .i64 ld) rfl rfl (by kernel_rfl) (fun U hU => (by go_simp)) ?_
    refine PickQ.value (d := some 74) (.int .u64 ld) rfl rfl (by kernel_rfl) (fun U hU => (by go_simp)) ?_
    refine PickQ.call (d := some 75) (.string S1) 41 #[.int .u64 ld, .int .i64 6] rfl rfl (by kernel_rfl) (fun U hU => (by go_simp)) (fun U hU => HB6.out U) ?_
    refine PickQ.value (d := some 76) (.string (⟨#[49, 49]⟩ ++ S1)) rfl rfl (by kernel_rfl) (fun U hU => (by go_simp)) ?_
    refine PickQ.value (d := some 77) (.int .i64 ld) rfl rfl (by kernel_rfl) (fun U hU => (by go_simp)) ?_
    refine PickQ.value (d := some 78) (.int .i64 ((63 - ld : Nat) : Int)) rfl rfl (by kernel_rfl) (fun U hU => (by go_simp)) ?_
    refine PickQ.value (d := some 79) (.int .i64 tr) rfl rfl (by kernel_rfl) (fun U hU => (by go_simp)) ?_
    refine PickQ.value (d := some 80) (.int .i64 ((63 - ld - tr : Nat) : Int)) rfl rfl (by kernel_rfl) (fun U hU => (by go_simp)) ?_
    refine PickQ.value (d := some 81) (.int .u64 ((63 - ld - tr : Nat) : Int)) rfl rfl (by kernel_rfl) (fun U hU => (by go_simp)) ?_
    refine PickQ.call (d := some 82) (.string S2) 41 #[.int .u64 ((63 - ld - tr : Nat) : Int), .int .i64 6] rfl rfl (by kernel_rfl) (fun U hU => (by go_simp)) (fun U hU => HB7.out U) ?_
    refine PickQ.value (d := some 83) (.string (⟨#[49, 49]⟩ ++ S1 ++ S2)) rfl rfl (by kernel_rfl) (fun U hU => (by go_simp)) ?_
    refine PickQ.value (d := some 84) (.string bs) rfl rfl (by kernel_rfl) (fun U hU => (by go_simp)) ?_
    refine PickQ.value (d := some 85) (.int .i64 ld) rfl rfl (by kernel_rfl) (fun U hU => (by go_simp)) ?_
    refine PickQ.value (d := some 86) (.int .i64 tr) rfl rfl (by kernel_rfl) (fun U hU => (by go_simp)) ?_
    refine PickQ.value (d := some 87) (.int .i64 ((64 - tr : Nat) : Int)) rfl rfl (by kernel_rfl) (fun U hU => (by go_simp)) ?_
    refine PickQ.value (d := some 88) (.string (bs.extract ld (64 - tr))) rfl rfl (by kernel_rfl) (fun U hU => (by go_simp)) ?_
    refine PickQ.value (d := some 89) (.string (⟨#[49, 49]⟩ ++ S1 ++ S2 ++ bs.extract ld (64 - tr))) rfl rfl (by kernel_rfl) (fun U hU => (by go_simp)) ?_
    refine PickQ.value (d := some 90) (.agg #[.int .i64 ((s.n : Int) + 1), .int .u64 v, .int .i64 ld, .int .i64 tr]) rfl rfl (by kernel_rfl) (fun U hU => (by obtain ⟨h0, h1, h2, h3⟩ := hU; go_simp)) ?_
    refine PickQ.value (d := some 4) (.string (⟨#[49, 49]⟩ ++ S1 ++ S2 ++ bs.extract ld (64 - tr))) rfl rfl (by kernel_rfl) (fun U hU => (by go_simp)) ?_
    simp only [PickQ, Act.put, List.setIfInBounds_toArray, List.set_cons_zero, List.set_cons_succ]
    have hset := (HHd.out.st.set ⟨s.n + 1, v, ld, tr⟩).cells
    have hgr := grown_four wd (w.heap.size + 1) 0 1 2 3 (.int .i64 ((s.n : Int) + 1)) (.int .u64 v) (.int .i64 ld) (.int .i64 tr)
    have hSE := (HHd.out.nx.grown hgr (by simp; omega)).cells
    have hbe := HHd.out.bel.grown hgr HHd.out.bel.size (fun r e => by cases e; omega)
    obtain ⟨y0, y1, y2, y3⟩ := HHd.out.st.cells
    obtain ⟨f0, f1, f2, f3⟩ := HHd.out.st.free
    simp only [Int.natCast_add, Int.cast_ofNat_Int] at hset
    have HSET := Lib.hid hset; have HSE := Lib.hid hSE; have HBE := Lib.hid hbe
    clear hset hgr hSE hbe c1 q1 q2 q3 c2 k1 k2 k3 k4
    refine wpAnyH_one (i := 19) (by kernel_rfl) rfl (by kernel_rfl) ?_
    intro K hK
    unfold Oper.wp
    go_simp
    refine hK _ _ HSE.out (fun _ => ?_)
    clear hK K
    refine wpAnyH_done (by kernel_rfl) ?_ _
    refine Only.next ?_
    go_wp2_with fail
    refine bodyPost_ret (v := .tuple #[.string (⟨#[49, 49]⟩ ++ S1 ++ S2 ++ bs.extract ld (64 - tr)), .agg #[.int .i64 ((s.n : Int) + 1), .int .u64 v, .int .i64 ld, .int .i64 tr]]) ?_ rfl ⟨by rw [HCX.out]; exact congrArg (fun z => Ending.returned (.tuple #[.string _, z])) HNX2.out.symm, ?_⟩
    · obtain ⟨e0, e1', e2, e3⟩ := HSET.out
      simp [results, go_sem, e0, e1', e2, e3]
    · exact HBE.out
theorem rVPut_any (s : Va.S) (hok : s.ok) (hn : s.n < 2199023255552) (v : Nat) (hv : v < 18446744073709551616) (w : World) :
    Calls Tryz.prog 29 #[s.val, .int .u64 v] w fun e w' => e = .returned (.tuple #[.string (Bit.str (s.code v)), (s.next v).val]) ∧ Below w.heap.size w w' := by
  by_cases h3 : Va.way s (v ^^^ s.v) = 3
  · exact rVPut_3 s hok hn v hv h3 w
  · exact rVPut_but3 s hok hn v hv (Lib.hid h3) w
end Go.Proofs.YtfgcgjogaaofdaaGreatDoor
/-
  What All of the document's answer for package value comes to.
-/
namespace Go.Proofs.YtfgcgjogaaofdaaGreatDoor
open Go.RowKit
/-- what a round of All carries along -/
structure AllHeld (g : Nat) (s : Va.S) (p : Addr) (v : Nat) (U : World) : Prop where
  st : RVStAt U g s
  at_ : U.cell? p = some (.int .u64 v)
theorem AllHeld.later {g : Nat} {s : Va.S} {p : Addr} {v : Nat} {W W2 : World} (h : AllHeld g s p v W) (hb : Below W.heap.size W W2) : AllHeld g s p v W2 := ⟨h.st.later hb, (hb.cell (block_lt_of_cell h.at_)).trans h.at_⟩

set_option maxRecDepth 100000 in
set_option maxHeartbeats 4000000 in
theorem rVAll_any (w : World) (A : Option Addr) (len cap : Nat) (f : Nat → Nat) (hlen : len ≤ 200) (hA : IntRow w A len .u64 (fun i => (f i : Int))) :
    Calls Tryz.prog 20 #[.slice A len cap] w fun e w' => e = .returned (.string (Bit.text (Va.bits f len))) ∧ Below w.heap.size w w' := by
  have hfl : ∀ i, i < len → f i < 18446744073709551616 := fun i hi => by have := (hA.u64_lt hi).2; omega
  have haf := Va.after_ok f len (by omega) hfl
  have HAF := Lib.hid haf; have HFL := Lib.hid hfl
  have HA := Lib.hid hA; clear hA haf hfl
  have hbg := fun W => rVBegin_any W
  rw [show (Va.S.val ⟨0, 0, 64, 0⟩) = .agg #[.int .i64 0, .int .u64 0, .int .i64 64, .int .i64 0] from rfl] at hbg
  have HBG := Lib.hid hbg; clear hbg
  go_enter Tryz.func20, Tryz.ntmps20
  go_wp2_with fail
  refine (HBG.out _).mono ?_; rintro e w2 ⟨rfl, hb2⟩
  have HB2 := Lib.hid hb2; clear hb2
  go_wp2_with fail
  go_loopw [3, 5] (fun o i wr => ∃ (k : Nat), k ≤ len ∧ i = .int .i64 k ∧ o = .string (Bit.str (Va.bits f k)) ∧ RVStAt wr w2.heap.size (Va.after f k) ∧ Below w.heap.size w wr) (fun _ i _ => len - (intOf i).toNat)
  case atStart => exact ⟨0, by omega, rfl, rfl, RowIs.one _ _, HB2.out.alloc HB2.out.size _⟩
  case round =>
    obtain ⟨k, hk, rfl, rfl, hs, hb⟩ := hrel
    have HB := Lib.hid hb; have HS := Lib.hid hs; clear hb hs
    have hB := Va.bits_length f k
    have hg2 : w.heap.size ≤ w2.heap.size := HB2.out.size
    have hgl : w2.heap.size < wr.heap.size := HS.out.lt
    generalize w2.heap.size = gx at *
    by_cases hlt : k < len
    · obtain ⟨ad, rfl, c0, wf0⟩ := HA.out.at_ HB.out hlt
      have hok := HAF.out k (by omega)
      have hfk := HFL.out k hlt
      have hput := fun W => rVPut_any (Va.after f k) hok.1 (by rw [hok.2]; omega) (f k) hfk W
      have hbn : Va.bits f (k + 1) = Va.bits f k ++ (Va.after f k).code (f k) := rfl
      have han : Va.after f (k + 1) = (Va.after f k).next (f k) := rfl
      have hcl := Va.S.code_length (Va.after f k) (f k)
      have hcc := Va.cost_le (s := Va.after f k) (f k)
      rw [← han] at hput
      generalize hsx : Va.after f k = s at *
      generalize hys : Va.after f (k + 1) = y at *
      have hcat : Bit.str (Va.bits f k) ++ Bit.str (s.code (f k)) = Bit.str (Va.bits f (k + 1)) := by rw [hbn]; exact Bit.str_append _ _
      have hsz : (Bit.str (Va.bits f k)).size + (Bit.str (s.code (f k))).size ≤ 16000 := by
        rw [Bit.str_size, Bit.str_size, hcl]; omega
      have HCAT := Lib.hid hcat; have HYS := Lib.hid hys
      generalize s.code (f k) = D at *
      generalize f k = v at *
      have hput2 : ∀ W, Calls Tryz.prog 29 #[.agg #[.int .i64 s.n, .int .u64 s.v, .int .i64 s.l, .int .i64 s.t], .int .u64 v] W fun e w' => e = .returned (.tuple #[.string (Bit.str D), .agg #[.int .i64 y.n, .int .u64 y.v, .int .i64 y.l, .int .i64 y.t]]) ∧ Below W.heap.size W w' := hput
      have HPUT := Lib.hid hput2
      clear hput hput2 hok hfk hbn han hsx hys hcat hcl hcc
      have HW1 : Hid (wr.heap.size = wr.drew.heap.size) := Lib.hid rfl
      have hS : AllHeld gx s (ad.add k) v wr.drew := ⟨HS.out, c0⟩
      have HBd : Hid (Below w.heap.size w wr.drew) := Lib.hid HB.out.drew
      clear HS c0
      go_wp2_with fail
      refine plain_held (fun U => AllHeld gx s (ad.add k) v U) (by kernel_rfl) ?_
      have hgd : gx < wr.drew.heap.size := hgl
      clear HW1 HB hgl
      generalize wr.drew = wd at *
      refine wpAnyH_pick (by kernel_rfl) Only.panic (w := wd) hS [0, 1, 2, 3, 4] 7 _ _ (by kernel_rfl) ?_
      refine PickOk.value (v := .agg #[.int .i64 s.n, .int .u64 s.v, .int .i64 s.l, .int .i64 s.t]) rfl rfl (by kernel_rfl) (fun U hU => (by obtain ⟨h0, h1, h2, h3⟩ := hU.st.cells; go_simp)) ?_
      refine PickOk.value (v := .slice (some ad) len cap) rfl rfl (by kernel_rfl) (fun U hU => (by go_simp)) ?_
      refine PickOk.value (v := .int .i64 k) rfl rfl (by kernel_rfl) (fun U hU => (by go_simp)) ?_
      refine PickOk.value (v := .pointer (some (ad.add k))) rfl rfl (by kernel_rfl) (fun U hU => (by go_simp)) ?_
      refine PickOk.value (v := .int .u64 v) rfl rfl (by kernel_rfl) (fun U hU => (by have h0 := hU.at_; go_simp)) ?_
      simp only [PickOk, Act.put, List.setIfInBounds_toArray]
      refine wpAnyH_two (i := 5) (j := 9) (by kernel_rfl) rfl rfl (by kernel_rfl) (by kernel_rfl) ?_ ?_
      · intro K hK
        unfold Oper.wp
        go_simp
        refine (HPUT.out wd).mono ?_; rintro e w3 ⟨rfl, hb3⟩
        have S3 := hS.later hb3
        have HB3 := Lib.hid (HBd.out.trans (hb3.mono HBd.out.size))
        refine hK _ _ S3 (fun _ => ?_)
        clear hK K hS hb3 HPUT
        refine wpAnyH_pick (by kernel_rfl) Only.panic (w := w3) S3 [6, 7, 8] 3 _ _ (by kernel_rfl) ?_
        refine PickOk.value (v := .tuple #[.string (Bit.str D), .agg #[.int .i64 y.n, .int .u64 y.v, .int .i64 y.l, .int .i64 y.t]]) rfl rfl (by kernel_rfl) (fun U hU => (by go_simp)) ?_
        refine PickOk.value (v := .string (Bit.str D)) rfl rfl (by kernel_rfl) (fun U hU => (by go_simp)) ?_
        refine PickOk.value (v := .agg #[.int .i64 y.n, .int .u64 y.v, .int .i64 y.l, .int .i64 y.t]) rfl rfl (by kernel_rfl) (fun U hU => (by go_simp)) ?_
        simp only [PickOk, Act.put, List.setIfInBounds_toArray]
        refine wpAnyH_one (i := 9) (by kernel_rfl) rfl (by kernel_rfl) ?_
        intro K hK
        unfold Oper.wp
        go_simp
        have S4 := S3.later ((Below.refl _ _).alloc (Nat.le_refl _) (.cells #[.int .i64 0, .int .u64 0, .int .i64 0, .int .i64 0] 62))
        have HQ : Hid (RVStAt (w3.alloc (.cells #[.int .i64 0, .int .u64 0, .int .i64 0, .int .i64 0] 62)) w3.heap.size ⟨0, 0, 0, 0⟩) := Lib.hid (RowIs.one _ _)
        have HB4 := Lib.hid (HB3.out.alloc HB3.out.size (.cells #[.int .i64 0, .int .u64 0, .int .i64 0, .int .i64 0] 62))
        have hq3 : gx < w3.heap.size := S3.st.lt
        have hal3 : (ad.add k).block < w3.heap.size := block_lt_of_cell S3.at_
        refine hK _ _ S4 (fun _ => ?_)
        clear hK K HB3
        generalize w3.alloc (.cells #[.int .i64 0, .int .u64 0, .int .i64 0, .int .i64 0] 62) = w4 at *
        generalize w3.heap.size = gq at *
        refine wpAnyH_pick (by kernel_rfl) Only.panic S4 [10] 1 _ _ (by kernel_rfl) ?_
        refine PickOk.value (v := .string (Bit.str D)) rfl rfl (by kernel_rfl) (fun U hU => (by go_simp)) ?_
        simp only [PickOk, Act.put, List.setIfInBounds_toArray]
        refine wpAnyH_one (i := 11) (by kernel_rfl) rfl (by kernel_rfl) ?_
        intro K hK
        obtain ⟨y0, y1, y2, y3⟩ := HQ.out.cells
        obtain ⟨x0, x1, x2, x3⟩ := HQ.out.free
        have hgr := grown_four w4 gq 0 1 2 3 (.int .i64 y.n) (.int .u64 y.v) (.int .i64 y.l) (.int .i64 y.t)
        have hb5 : Below gq w4 ((((w4.setCell ⟨gq, 0, none⟩ (.int .i64 y.n)).setCell ⟨gq, 1, none⟩ (.int .u64 y.v)).setCell ⟨gq, 2, none⟩ (.int .i64 y.l)).setCell ⟨gq, 3, none⟩ (.int .i64 y.t)) := (Below.refl _ _).grown hgr (Nat.le_of_lt HQ.out.lt) (fun r e => by cases e; exact Nat.le_refl _)
        have S5 : AllHeld gx s (ad.add k) v ((((w4.setCell ⟨gq, 0, none⟩ (.int .i64 y.n)).setCell ⟨gq, 1, none⟩ (.int .u64 y.v)).setCell ⟨gq, 2, none⟩ (.int .i64 y.l)).setCell ⟨gq, 3, none⟩ (.int .i64 y.t)) := ⟨(hb5.block _ hq3).trans S4.st, (hb5.cell hal3).trans S4.at_⟩
        have HN := Lib.hid (HQ.out.set y)
        have HB5 := Lib.hid (HB4.out.grown hgr HB4.out.size (fun r e => by cases e; omega))
        unfold Oper.wp
        go_simp
        refine hK _ _ S5 (fun _ => ?_)
        clear hK K hgr hb5 y0 y1 y2 y3 x0 x1 x2 x3 HQ S4 HB4
        refine wpAnyH_done (by kernel_rfl) ?_ _
        refine Only.next ?_
        generalize ((((w4.setCell ⟨gq, 0, none⟩ (.int .i64 y.n)).setCell ⟨gq, 1, none⟩ (.int .u64 y.v)).setCell ⟨gq, 2, none⟩ (.int .i64 y.l)).setCell ⟨gq, 3, none⟩ (.int .i64 y.t)) = w5 at *
        obtain ⟨q0, q1, q2, q3⟩ := HN.out.cells
        obtain ⟨r0, r1, r2, r3⟩ := S5.st.cells
        obtain ⟨z0, z1, z2, z3⟩ := S5.st.free
        have hgr5 := grown_four w5 gx 0 1 2 3 (.int .i64 y.n) (.int .u64 y.v) (.int .i64 y.l) (.int .i64 y.t)
        have HE := Lib.hid (S5.st.set y)
        have HBN := Lib.hid (HB5.out.grown hgr5 HB5.out.size (fun r e => by cases e; omega))
        have hsz2 : ¬ 9223372036854775807 < (Bit.str (Va.bits f k)).size + (Bit.str D).size := by omega
        clear S5 hgr5 S3 hsz
        go_wp2_with fail
        go_roundw
        case rel => exact ⟨k + 1, by omega, by go_num, congrArg Value.string HCAT.out, by rw [HYS.out]; exact HE.out, HBN.out⟩
        case measure => simp [intOf]; omega
      · intro K hK
        unfold Oper.wp
        go_simp
        have S4 := hS.later ((Below.refl _ _).alloc (Nat.le_refl _) (.cells #[.int .i64 0, .int .u64 0, .int .i64 0, .int .i64 0] 62))
        have HQ1 : Hid (RVStAt (wd.alloc (.cells #[.int .i64 0, .int .u64 0, .int .i64 0, .int .i64 0] 62)) wd.heap.size ⟨0, 0, 0, 0⟩) := Lib.hid (RowIs.one _ _)
        have HB3 := Lib.hid (HBd.out.alloc HBd.out.size (.cells #[.int .i64 0, .int .u64 0, .int .i64 0, .int .i64 0] 62))
        have hq3 : gx < wd.heap.size := hS.st.lt
        have hqs : w.heap.size ≤ wd.heap.size := HBd.out.size
        have hal3 : (ad.add k).block < wd.heap.size := block_lt_of_cell hS.at_
        refine hK _ _ S4 (fun _ => ?_)
        clear hK K hS HBd
        generalize wd.alloc (.cells #[.int .i64 0, .int .u64 0, .int .i64 0, .int .i64 0] 62) = w3 at *
        generalize wd.heap.size = gq at *
        refine wpAnyH_one (i := 5) (by kernel_rfl) rfl (by kernel_rfl) ?_
        intro K hK
        unfold Oper.wp
        go_simp
        refine (HPUT.out w3).mono ?_; rintro e w4 ⟨rfl, hb4⟩
        have S3 := S4.later hb4
        have HQ := Lib.hid (HQ1.out.later hb4)
        have HB4 := Lib.hid (HB3.out.trans (hb4.mono HB3.out.size))
        refine hK _ _ S3 (fun _ => ?_)
        clear hK K S4 hb4 HPUT HQ1 HB3
        have S4 := S3
        refine wpAnyH_pick (by kernel_rfl) Only.panic (w := w4) S3 [6, 7, 8, 10] 1 _ _ (by kernel_rfl) ?_
        refine PickOk.value (v := .tuple #[.string (Bit.str D), .agg #[.int .i64 y.n, .int .u64 y.v, .int .i64 y.l, .int .i64 y.t]]) rfl rfl (by kernel_rfl) (fun U hU => (by go_simp)) ?_
        refine PickOk.value (v := .string (Bit.str D)) rfl rfl (by kernel_rfl) (fun U hU => (by go_simp)) ?_
        refine PickOk.value (v := .agg #[.int .i64 y.n, .int .u64 y.v, .int .i64 y.l, .int .i64 y.t]) rfl rfl (by kernel_rfl) (fun U hU => (by go_simp)) ?_
        refine PickOk.value (v := .string (Bit.str D)) rfl rfl (by kernel_rfl) (fun U hU => (by go_simp)) ?_
        simp only [PickOk, Act.put, List.setIfInBounds_toArray]
        refine wpAnyH_one (i := 11) (by kernel_rfl) rfl (by kernel_rfl) ?_
        intro K hK
        obtain ⟨y0, y1, y2, y3⟩ := HQ.out.cells
        obtain ⟨x0, x1, x2, x3⟩ := HQ.out.free
        have hgr := grown_four w4 gq 0 1 2 3 (.int .i64 y.n) (.int .u64 y.v) (.int .i64 y.l) (.int .i64 y.t)
        have hb5 : Below gq w4 ((((w4.setCell ⟨gq, 0, none⟩ (.int .i64 y.n)).setCell ⟨gq, 1, none⟩ (.int .u64 y.v)).setCell ⟨gq, 2, none⟩ (.int .i64 y.l)).setCell ⟨gq, 3, none⟩ (.int .i64 y.t)) := (Below.refl _ _).grown hgr (Nat.le_of_lt HQ.out.lt) (fun r e => by cases e; exact Nat.le_refl _)
        have S5 : AllHeld gx s (ad.add k) v ((((w4.setCell ⟨gq, 0, none⟩ (.int .i64 y.n)).setCell ⟨gq, 1, none⟩ (.int .u64 y.v)).setCell ⟨gq, 2, none⟩ (.int .i64 y.l)).setCell ⟨gq, 3, none⟩ (.int .i64 y.t)) := ⟨(hb5.block _ hq3).trans S4.st, (hb5.cell hal3).trans S4.at_⟩
        have HN := Lib.hid (HQ.out.set y)
        have HB5 := Lib.hid (HB4.out.grown hgr HB4.out.size (fun r e => by cases e; omega))
        unfold Oper.wp
        go_simp
        refine hK _ _ S5 (fun _ => ?_)
        clear hK K hgr hb5 y0 y1 y2 y3 x0 x1 x2 x3 HQ S4 HB4
        refine wpAnyH_done (by kernel_rfl) ?_ _
        refine Only.next ?_
        generalize ((((w4.setCell ⟨gq, 0, none⟩ (.int .i64 y.n)).setCell ⟨gq, 1, none⟩ (.int .u64 y.v)).setCell ⟨gq, 2, none⟩ (.int .i64 y.l)).setCell ⟨gq, 3, none⟩ (.int .i64 y.t)) = w5 at *
        obtain ⟨q0, q1, q2, q3⟩ := HN.out.cells
        obtain ⟨r0, r1, r2, r3⟩ := S5.st.cells
        obtain ⟨z0, z1, z2, z3⟩ := S5.st.free
        have hgr5 := grown_four w5 gx 0 1 2 3 (.int .i64 y.n) (.int .u64 y.v) (.int .i64 y.l) (.int .i64 y.t)
        have HE := Lib.hid (S5.st.set y)
        have HBN := Lib.hid (HB5.out.grown hgr5 HB5.out.size (fun r e => by cases e; omega))
        have hsz2 : ¬ 9223372036854775807 < (Bit.str (Va.bits f k)).size + (Bit.str D).size := by omega
        clear S5 hgr5 S3 hsz
        go_wp2_with fail
        go_roundw
        case rel => exact ⟨k + 1, by omega, by go_num, congrArg Value.string HCAT.out, by rw [HYS.out]; exact HE.out, HBN.out⟩
        case measure => simp [intOf]; omega
    · obtain rfl : k = len := by omega
      have hrb := fun W => rBytes_any (Va.bits f k) (by omega) W
      have HRB := Lib.hid hrb; clear hrb
      go_wp2_with fail
      refine (HRB.out _).mono ?_; rintro e w3 ⟨rfl, hb3⟩
      have HB3 := Lib.hid (HB.out.trans (hb3.mono HB.out.size)); clear hb3
      go_wp2_with fail
      go_ret
      exact ⟨rfl, HB3.out⟩
end Go.Proofs.YtfgcgjogaaofdaaGreatDoor
