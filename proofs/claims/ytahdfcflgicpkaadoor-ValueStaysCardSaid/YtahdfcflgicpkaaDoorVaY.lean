/-
  The walk of ValueStays.
-/
import Derived.Test.YtahdfcflgicpkaaDoorVaU
import Derived.Test.YtahdfcflgicpkaaDoorStructs
import Derived.Deep.RegionHeld3
import Derived.Deep.DeepCutAuto
namespace Go.Proofs.YtahdfcflgicpkaaDoor
open Go.RowKit
theorem Va.cost_again {s : Va.S} (hn : s.n ≠ 0) : s.cost s.v = 1 := by
  unfold Va.S.cost
  have h : Va.way s (s.v ^^^ s.v) = 1 := Va.way_one.2 ⟨hn, Nat.xor_self _⟩
  rw [h, if_neg (by decide), if_pos rfl]
/-- what the loop holds beside the cells that it loads -/
structure VStays (w : World) (p : Nat) (B : List Bool) (W : World) : Prop where
  wr : ∃ A cap, WrAt W w.heap.size p A cap B
  bel : Below w.heap.size w W
theorem VStays.later {w W W2 : World} {p : Nat} {B : List Bool} (h : VStays w p B W) (hb : Below W.heap.size W W2) : VStays w p B W2 := by
  obtain ⟨A, cap, hw⟩ := h.wr
  exact ⟨⟨A, cap, hw.later hb⟩, h.bel.trans (hb.mono h.bel.size)⟩
theorem VStays.drew {w W : World} {p : Nat} {B : List Bool} (h : VStays w p B W) : VStays w p B W.drew := by
  obtain ⟨A, cap, hw⟩ := h.wr
  exact ⟨⟨A, cap, hw.drew⟩, h.bel.grown (grown_drew (grown_refl W none)) h.bel.size (fun r e => by cases e)⟩
theorem VStays.len {w W : World} {p : Nat} {B : List Bool} (h : VStays w p B W) : Calls Tryd.prog 16 #[.pointer (some ⟨p, 0, none⟩)] W fun e w' => e = .returned (.int .i64 B.length) ∧ w' = W := by
  obtain ⟨A, cap, hw⟩ := h.wr
  exact Len_any W hw
def VStayCells (g : Nat) (s : Va.S) (ad : Addr) (k v : Nat) (U : World) : Prop := U.cell? ⟨g, 0, none⟩ = some (.int .i64 s.n) ∧ U.cell? ⟨g, 1, none⟩ = some (.int .u64 s.v) ∧ U.cell? ⟨g, 2, none⟩ = some (.int .i64 s.l) ∧ U.cell? ⟨g, 3, none⟩ = some (.int .i64 s.t) ∧ U.cell? (ad.add k) = some (.int .u64 v)
theorem VStays.over {w W W2 : World} {p g : Nat} {B : List Bool} {s : Va.S} (h : VStays w p B W) (hs : VStAt W g s) (hg : W.grownBy W2 (some g)) (hp : g ≠ p) (hb : w.heap.size ≤ g) : VStays w p B W2 := by
  obtain ⟨A, cap, hw⟩ := h.wr
  refine ⟨⟨A, cap, RowAt.keep hw (hg.block _ hw.lt (by simp; omega)) (fun r hr => hg.block _ (by subst hr; exact (row_block hw.own rfl).2.1) ?_)⟩, h.bel.grown hg h.bel.size (fun r e => by cases e; exact hb)⟩
  have hne : r ≠ g := by subst hr; exact own_ne hw.own hs (by decide)
  simp; omega
/-- what is held while the new state is asked -/
structure VStayHeld (w : World) (p : Nat) (B : List Bool) (gt : Nat) (y s : Va.S) (W : World) : Prop where
  ny : VStAt W gt y
  ns : VStAt W w.heap.size s
  wr : VStays w p B W
theorem VStayHeld.later {w W W2 : World} {p gt : Nat} {B : List Bool} {y s : Va.S} (h : VStayHeld w p B gt y s W) (hb : Below W.heap.size W W2) : VStayHeld w p B gt y s W2 := ⟨h.ny.later hb, h.ns.later hb, h.wr.later hb⟩
theorem VStayHeld.drew {w W : World} {p gt : Nat} {B : List Bool} {y s : Va.S} (h : VStayHeld w p B gt y s W) : VStayHeld w p B gt y s W.drew := ⟨h.ny.drew, h.ns.drew, h.wr.drew⟩
theorem VStayHeld.tab {w W : World} {p gt : Nat} {B : List Bool} {y s : Va.S} (h : VStayHeld w p B gt y s W) (hT : TabOk w) : TabOk W := hT.later h.wr.bel
set_option maxRecDepth 100000 in
set_option maxHeartbeats 4000000 in
theorem valueStays_walk0 (w : World) (hT : TabOk w) (s0 : Va.S) (hok0 : s0.ok) (hn0 : s0.n ≤ 1099511627776) (A : Option Addr) (len cap : Nat) (f : Nat → Nat) (hl : len ≤ 60) (hA : IntRow w A len .u64 (fun i => (f i : Int))) :
    Calls Tryd.prog 5 #[s0.val, .slice A len cap] w fun e w' => e = .returned (.bool true) ∧ Below w.heap.size w w' := by
  have HFL : Hid (∀ i, i < len → f i < 18446744073709551616) := Lib.hid (fun i hi => by have := (hA.u64_lt hi).2; omega)
  have HT := Lib.hid hT; have HA := Lib.hid hA; have HOK0 := Lib.hid hok0; clear hT hA
  have hval : ∀ s : Va.S, s.val = .agg #[.int .i64 s.n, .int .u64 s.v, .int .i64 s.l, .int .i64 s.t] := fun _ => rfl
  have d0 : decide ((60 : Int) < (len : Int)) = false := by simp; omega
  have d1 : decide ((1099511627776 : Int) < (s0.n : Int)) = false := by simp; omega
  have hb0 : Below w.heap.size w (w.alloc (.cells #[.int .i64 s0.n, .int .u64 s0.v, .int .i64 s0.l, .int .i64 s0.t] 31)) := (Below.refl _ _).alloc (Nat.le_refl _) _
  have HS0 : Hid (VStAt (w.alloc (.cells #[.int .i64 s0.n, .int .u64 s0.v, .int .i64 s0.l, .int .i64 s0.t] 31)) w.heap.size s0) := Lib.hid (RowIs.one _ _)
  have HB0 := Lib.hid hb0
  have hvalid := fun W => Valid_any s0.n s0.v s0.l s0.t W
  rw [Va.S.valid hok0] at hvalid
  have HV := Lib.hid hvalid
  clear hb0 hvalid hok0
  rw [hval s0]
  go_enter Tryd.func5, Tryd.ntmps5
  go_wp2_with fail
  have hz0 : w.heap.size < (w.alloc (.cells #[.int .i64 s0.n, .int .u64 s0.v, .int .i64 s0.l, .int .i64 s0.t] 31)).heap.size := by simp
  generalize w.alloc (.cells #[.int .i64 s0.n, .int .u64 s0.v, .int .i64 s0.l, .int .i64 s0.t] 31) = wa at *
  have hworks := works_any wa (HT.out.later HB0.out)
  refine hworks.mono ?_; clear hworks; rintro e w1 ⟨rfl, hb1⟩
  have HS1 := Lib.hid (HS0.out.later hb1); have HB1 := Lib.hid (HB0.out.trans (hb1.mono (Nat.le_of_lt hz0)))
  have hz1 : w.heap.size < w1.heap.size := Nat.lt_of_lt_of_le hz0 hb1.size
  clear hb1
  go_wp2_with fail
  refine (NewWriter_any _).mono ?_; rintro e w2 ⟨rfl, hw2⟩
  have hwr : WrAt w2 w.heap.size w1.heap.size none 0 [] := by rw [hw2]; exact WrAt.new w1 _
  have hal : Below w1.heap.size w1 w2 := by rw [hw2]; exact (Below.refl _ _).alloc (Nat.le_refl _) _
  have HS2 := Lib.hid (HS1.out.later hal); have HB2 := Lib.hid (HB1.out.trans (hal.mono (Nat.le_of_lt hz1))); have HWr := Lib.hid hwr
  generalize w1.heap.size = p at *
  clear hwr hal hw2
  obtain ⟨a0, a1, a2, a3⟩ := HS2.out.cells
  go_wp2_with fail
  refine (HV.out _).mono ?_; rintro e w3 ⟨rfl, hb3⟩
  have HS3 := Lib.hid (HS2.out.later hb3); have HB3 := Lib.hid (HB2.out.trans (hb3.mono HB2.out.size)); have HW3 := Lib.hid (HWr.out.later hb3)
  clear hb3 a0 a1 a2 a3
  go_wp2_with fail
  go_loopw [7] (fun i wr => ∃ (k : Nat) (s : Va.S) (B : List Bool), k ≤ len ∧ i = .int .i64 k ∧ VStAt wr w.heap.size s ∧ s.ok ∧ s.n ≤ 1099511627776 + k ∧ B.length ≤ 78 * k ∧ VStays w p B wr) (fun i _ => len - (intOf i).toNat)
  case atStart => exact ⟨0, s0, [], by omega, rfl, HS3.out, HOK0.out, by omega, by simp, ⟨⟨_, _, HW3.out⟩, HB3.out⟩⟩
  case round =>
    obtain ⟨k, s, B, hk, rfl, hs, hok, hn, hBl, hh⟩ := hrel
    have HS := Lib.hid hs; have HH := Lib.hid hh; have HOK := Lib.hid hok; clear hs hh hok
    by_cases hlt : k < len
    · obtain ⟨ad, rfl, c0, wf0⟩ := HA.out.at_ HH.out.bel hlt
      have HMORE := Lib.hid (fun W hW => HA.out.more (w2 := W) hW hlt)
      have hfk := HFL.out k hlt
      have hcl := Va.cost_le (s := s) (f k); have hcp := Va.cost_pos (s := s) (f k)
      obtain ⟨hyok, hyv, hyn⟩ := Va.next_ok HOK.out (f k) hfk (by omega)
      have hcost := fun W h => vCost_any s HOK.out (by omega) (f k) hfk W h
      have hput := fun W A3 cap3 hT hw hb => vPut_any w.heap.size p A3 cap3 B (by omega) s HOK.out (by omega) (f k) hfk W hT hw hb
      have hcost2 := fun W h => vCost_any (s.next (f k)) hyok (by omega) (f k) hfk W h
      have hag : (s.next (f k)).cost (f k) = 1 := by
        have h := Va.cost_again (s := s.next (f k)) (by omega)
        rw [hyv] at h; exact h
      rw [hag] at hcost2
      have hvalid2 := fun W => Valid_any (s.next (f k)).n (s.next (f k)).v (s.next (f k)).l (s.next (f k)).t W
      rw [Va.S.valid hyok] at hvalid2
      have hcodel := s.code_length (f k)
      generalize s.code (f k) = C at *
      generalize s.cost (f k) = co at *
      generalize hys : s.next (f k) = y at *
      generalize f k = v at *
      rw [hval] at hcost hput hcost2
      have HCOST := Lib.hid hcost; have HPUT := Lib.hid hput; have HCOST2 := Lib.hid hcost2; have HVAL2 := Lib.hid hvalid2; have HYOK := Lib.hid hyok; have HYV := Lib.hid hyv; have HYN := Lib.hid hyn; have HCL := Lib.hid hcodel
      clear hcost hput hcost2 hvalid2 hyok hyv hyn hag hys hcodel
      have HTk : Hid (TabOk wr) := Lib.hid (HT.out.later HH.out.bel)
      obtain ⟨a0, a1, a2, a3⟩ := HS.out.cells
      go_wp2_with fail
      refine HH.out.len.mono ?_; rintro e wx ⟨rfl, rfl⟩
      go_upto_region 11 with fail
      refine plain_still_tail 5 (by kernel_rfl) (by kernel_rfl) ?_
      simp only [List.take_succ_cons, List.take_zero, List.drop_succ_cons, List.drop_zero]
      repeat still_step
      refine wpStill_nil ?_
      go_wp2_with fail
      refine (HCOST.out wx.drew (fun j hj => HTk.out j hj)).mono ?_; rintro e w4 ⟨rfl, hb4⟩
      have hbd : Below wx.heap.size wx w4 := ⟨hb4.os, hb4.tape, hb4.output, hb4.size, hb4.block⟩
      have HS4 := Lib.hid (HS.out.later hbd); have HH4 := Lib.hid (HH.out.later hbd)
      clear hb4 hbd a0 a1 a2 a3 c0
      have HT4 : Hid (TabOk w4) := Lib.hid (HT.out.later HH4.out.bel)
      have c0 := HMORE.out w4 HH4.out.bel
      obtain ⟨a0, a1, a2, a3⟩ := HS4.out.cells
      go_upto_region 12 with fail
      have HSW4 := HH4.out.wr
      have hpz : p < w4.heap.size := by obtain ⟨A4, c4, hw4⟩ := HSW4; exact hw4.lt
      go_cut [10] (fun s10 wx => ∃ gt : Nat, s10 = .pointer (some ⟨gt, 0, none⟩) ∧ gt ≠ w.heap.size ∧ w.heap.size ≤ gt ∧ VStAt wx gt y ∧ VStAt wx w.heap.size s ∧ VStays w p (B ++ C) wx)
      case first =>
        have hS : VStayCells w.heap.size s ad k v w4.drew := ⟨a0, a1, a2, a3, c0⟩
        have HSd : Hid (VStAt w4.drew w.heap.size s) := Lib.hid HS4.out.drew
        have HHd := Lib.hid HH4.out.drew
        have HTd : Hid (TabOk w4.drew) := Lib.hid (fun j hj => HT4.out j hj)
        have HAL : Hid (∀ (W : World) (o : Obj), Below W.heap.size W (W.alloc o)) := Lib.hid (fun W o => (Below.refl _ _).alloc (Nat.le_refl _) _)
        have HKEEP : Hid (∀ W W2 : World, VStayCells w.heap.size s ad k v W → Below W.heap.size W W2 → VStayCells w.heap.size s ad k v W2) := Lib.hid (fun W W2 h hb => ⟨cell_keep h.1 hb, cell_keep h.2.1 hb, cell_keep h.2.2.1 hb, cell_keep h.2.2.2.1 hb, cell_keep h.2.2.2.2 hb⟩)
        clear a0 a1 a2 a3 c0 HS4 HH4 HT4
        refine plain_held (VStayCells w.heap.size s ad k v) (by kernel_rfl) ?_
        generalize w4.drew = wd at *
        refine wpAnyH_pick (by kernel_rfl) Only.panic (w := wd) hS [0, 1, 2, 3, 4, 5] 3 _ _ (by kernel_rfl) ?_
        refine PickOk.value (v := .pointer (some ⟨p, 0, none⟩)) rfl rfl (by kernel_rfl) (fun U hU => (by go_simp)) ?_
        refine PickOk.value (v := .agg #[.int .i64 s.n, .int .u64 s.v, .int .i64 s.l, .int .i64 s.t]) rfl rfl (by kernel_rfl) (fun U hU => (by obtain ⟨h0, h1, h2, h3, h4⟩ := hU; go_simp)) ?_
        refine PickOk.value (v := .slice (some ad) len cap) rfl rfl (by kernel_rfl) (fun U hU => (by go_simp)) ?_
        refine PickOk.value (v := .int .i64 k) rfl rfl (by kernel_rfl) (fun U hU => (by go_simp)) ?_
        refine PickOk.value (v := .pointer (some (ad.add k))) rfl rfl (by kernel_rfl) (fun U hU => (by go_simp)) ?_
        refine PickOk.value (v := .int .u64 v) rfl rfl (by kernel_rfl) (fun U hU => (by obtain ⟨h0, h1, h2, h3, h4⟩ := hU; go_simp)) ?_
        simp only [PickOk, Act.put, List.setIfInBounds_toArray]
        refine wpAnyH_two (i := 6) (j := 7) (by kernel_rfl) rfl rfl (by kernel_rfl) (by kernel_rfl) ?_ ?_
        · intro K hK
          unfold Oper.wp
          go_simp
          obtain ⟨A5, c5, hw5⟩ := HHd.out.wr
          refine (HPUT.out wd A5 c5 HTd.out hw5 HHd.out.bel.size).mono ?_
          rintro e w6 ⟨rfl, A6, c6, hw6, hN6, hF6⟩
          have HS6 : Hid (VStAt w6 w.heap.size s) := Lib.hid ((hF6.same _ HSd.out.lt (vrow_not hw5 HSd.out (by decide) (by omega))).trans HSd.out)
          have HH6 : Hid (VStays w p (B ++ C) w6) := Lib.hid ⟨⟨A6, c6, hw6⟩, HHd.out.bel.trans (hF6.below HHd.out.bel.size (putSet_base hw5 (by omega)))⟩
          have hmore6 := HMORE.out w6 HH6.out.bel
          have hS6 : VStayCells w.heap.size s ad k v w6 := ⟨HS6.out.cells.1, HS6.out.cells.2.1, HS6.out.cells.2.2.1, HS6.out.cells.2.2.2, hmore6⟩
          refine hK _ _ hS6 (fun _ => ?_)
          clear hK K hmore6
          clear hw5 hw6 hN6 hF6
          refine wpAnyH_one (i := 7) (by kernel_rfl) rfl (by kernel_rfl) ?_
          intro K hK
          unfold Oper.wp
          go_simp
          refine hK _ _ (HKEEP.out _ _ hS6 (HAL.out _ _)) (fun hS7 => ?_)
          clear hK K
          have HY7 : Hid (VStAt (w6.alloc (.cells #[.int .i64 0, .int .u64 0, .int .i64 0, .int .i64 0] 31)) w6.heap.size ⟨0, 0, 0, 0⟩) := Lib.hid (RowIs.one _ _)
          have HS7 := Lib.hid (HS6.out.later (HAL.out w6 (.cells #[.int .i64 0, .int .u64 0, .int .i64 0, .int .i64 0] 31))); have HH7 := Lib.hid (HH6.out.later (HAL.out w6 (.cells #[.int .i64 0, .int .u64 0, .int .i64 0, .int .i64 0] 31)))
          have hg1 : w.heap.size < w6.heap.size := HS6.out.lt
          have hpg : p < w6.heap.size := by obtain ⟨A4, c4, hw4⟩ := HH6.out.wr; exact hw4.lt
          generalize w6.alloc (.cells #[.int .i64 0, .int .u64 0, .int .i64 0, .int .i64 0] 31) = w7 at *
          generalize w6.heap.size = gt at *
          try rw [hval y]
          refine wpAnyH_one (i := 8) (by kernel_rfl) rfl (by kernel_rfl) ?_
          intro K hK
          have y0 := HY7.out.cells.1; have y1 := HY7.out.cells.2.1; have y2 := HY7.out.cells.2.2.1; have y3 := HY7.out.cells.2.2.2
          have f0 := HY7.out.free.1; have f1 := HY7.out.free.2.1; have f2 := HY7.out.free.2.2.1; have f3 := HY7.out.free.2.2.2
          have hgr := grown_four w7 gt 0 1 2 3 (.int .i64 y.n) (.int .u64 y.v) (.int .i64 y.l) (.int .i64 y.t)
          have HY8 := Lib.hid (HY7.out.set y)
          have HS8 := Lib.hid (HS7.out.grown hgr (by simp; omega))
          have HH8 : Hid (VStays w p (B ++ C) _) := Lib.hid (VStays.over HH7.out HY7.out hgr (by omega) (by omega))
          have hS8 : VStayCells w.heap.size s ad k v _ := ⟨HS8.out.cells.1, HS8.out.cells.2.1, HS8.out.cells.2.2.1, HS8.out.cells.2.2.2, HMORE.out _ HH8.out.bel⟩
          clear hgr
          unfold Oper.wp
          go_simp
          refine hK _ _ hS8 (fun _ => ?_)
          clear hK K
          refine wpAnyH_done (by kernel_rfl) ?_ _
          refine Only.next ?_
          go_wp2_with fail
          go_meet
          exact ⟨gt, rfl, by omega, by omega, HY8.out, HS8.out, HH8.out⟩
        · intro K hK
          unfold Oper.wp
          go_simp
          refine hK _ _ (HKEEP.out _ _ hS (HAL.out _ _)) (fun hS6 => ?_)
          clear hK K
          have HY6 : Hid (VStAt (wd.alloc (.cells #[.int .i64 0, .int .u64 0, .int .i64 0, .int .i64 0] 31)) wd.heap.size ⟨0, 0, 0, 0⟩) := Lib.hid (RowIs.one _ _)
          have HS6 := Lib.hid (HSd.out.later (HAL.out wd (.cells #[.int .i64 0, .int .u64 0, .int .i64 0, .int .i64 0] 31))); have HH6 := Lib.hid (HHd.out.later (HAL.out wd (.cells #[.int .i64 0, .int .u64 0, .int .i64 0, .int .i64 0] 31))); have HT6 : Hid (TabOk (wd.alloc (.cells #[.int .i64 0, .int .u64 0, .int .i64 0, .int .i64 0] 31))) := Lib.hid (HTd.out.later (HAL.out _ _))
          have hg1 : w.heap.size < wd.heap.size := HSd.out.lt
          have hpg : p < wd.heap.size := by obtain ⟨A4, c4, hw4⟩ := HHd.out.wr; exact hw4.lt
          generalize wd.alloc (.cells #[.int .i64 0, .int .u64 0, .int .i64 0, .int .i64 0] 31) = w6 at *
          generalize wd.heap.size = gt at *
          refine wpAnyH_one (i := 6) (by kernel_rfl) rfl (by kernel_rfl) ?_
          intro K hK
          unfold Oper.wp
          go_simp
          obtain ⟨A5, c5, hw5⟩ := HH6.out.wr
          refine (HPUT.out w6 A5 c5 HT6.out hw5 HH6.out.bel.size).mono ?_
          rintro e w7 ⟨rfl, A6, c6, hw6, hN6, hF6⟩
          have HS7 : Hid (VStAt w7 w.heap.size s) := Lib.hid ((hF6.same _ HS6.out.lt (vrow_not hw5 HS6.out (by decide) (by omega))).trans HS6.out)
          have HH7 : Hid (VStays w p (B ++ C) w7) := Lib.hid ⟨⟨A6, c6, hw6⟩, HH6.out.bel.trans (hF6.below HH6.out.bel.size (putSet_base hw5 (by omega)))⟩
          have hmore6 := HMORE.out w7 HH7.out.bel
          have hS7 : VStayCells w.heap.size s ad k v w7 := ⟨HS7.out.cells.1, HS7.out.cells.2.1, HS7.out.cells.2.2.1, HS7.out.cells.2.2.2, hmore6⟩
          refine hK _ _ hS7 (fun _ => ?_)
          clear hK K hmore6
          have HY7 : Hid (VStAt w7 gt ⟨0, 0, 0, 0⟩) := Lib.hid ((hF6.same _ HY6.out.lt (vrow_not hw5 HY6.out (by decide) (by omega))).trans HY6.out)
          clear hw5 hw6 hN6 hF6
          try rw [hval y]
          refine wpAnyH_one (i := 8) (by kernel_rfl) rfl (by kernel_rfl) ?_
          intro K hK
          have y0 := HY7.out.cells.1; have y1 := HY7.out.cells.2.1; have y2 := HY7.out.cells.2.2.1; have y3 := HY7.out.cells.2.2.2
          have f0 := HY7.out.free.1; have f1 := HY7.out.free.2.1; have f2 := HY7.out.free.2.2.1; have f3 := HY7.out.free.2.2.2
          have hgr := grown_four w7 gt 0 1 2 3 (.int .i64 y.n) (.int .u64 y.v) (.int .i64 y.l) (.int .i64 y.t)
          have HY8 := Lib.hid (HY7.out.set y)
          have HS8 := Lib.hid (HS7.out.grown hgr (by simp; omega))
          have HH8 : Hid (VStays w p (B ++ C) _) := Lib.hid (VStays.over HH7.out HY7.out hgr (by omega) (by omega))
          have hS8 : VStayCells w.heap.size s ad k v _ := ⟨HS8.out.cells.1, HS8.out.cells.2.1, HS8.out.cells.2.2.1, HS8.out.cells.2.2.2, HMORE.out _ HH8.out.bel⟩
          clear hgr
          unfold Oper.wp
          go_simp
          refine hK _ _ hS8 (fun _ => ?_)
          clear hK K
          refine wpAnyH_done (by kernel_rfl) ?_ _
          refine Only.next ?_
          go_wp2_with fail
          go_meet
          exact ⟨gt, rfl, by omega, by omega, HY8.out, HS8.out, HH8.out⟩
      case rest =>
        obtain ⟨gt, rfl, hgne, hgle, hy, hs, hh⟩ := hcut
        have HY5 := Lib.hid hy; have HS5 := Lib.hid hs; have HH5 := Lib.hid hh
        clear hy hs hh a0 a1 a2 a3 c0 HS4 HH4 HT4 HSW4
        have y0 := HY5.out.cells.1; have y1 := HY5.out.cells.2.1; have y2 := HY5.out.cells.2.2.1; have y3 := HY5.out.cells.2.2.2
        have a0 := HS5.out.cells.1
        have c0 := HMORE.out _ HH5.out.bel
        rw [HYV.out] at y1
        rw [HYN.out] at y0
        have hyv2 : (Value.agg #[.int .i64 y.n, .int .u64 y.v, .int .i64 y.l, .int .i64 y.t]) = .agg #[.int .i64 ((s.n + 1 : Nat) : Int), .int .u64 v, .int .i64 y.l, .int .i64 y.t] := by rw [HYV.out, HYN.out]
        have HVAL2 := Lib.hid HVAL2.out
        rw [HYV.out, HYN.out] at HVAL2
        have HC2 := Lib.hid HCOST2.out
        rw [HYV.out, HYN.out] at HC2
        have HLEN : Hid (∀ W, VStayHeld w p (B ++ C) gt y s W → Calls Tryd.prog 16 #[.pointer (some ⟨p, 0, none⟩)] W fun e w' => e = .returned (.int .i64 ((B.length : Int) + (co : Int))) ∧ w' = W) := Lib.hid (fun W h => (h.wr.len).mono (fun e w' ⟨he, hw⟩ => ⟨by rw [he, List.length_append, HCL.out, Int.natCast_add], hw⟩))
        have e1 : IntKind.i64.wrap ((s.n : Int) + 1) = (s.n : Int) + 1 := IntWalk.i64_in _ (by omega)
        have e2 : IntKind.i64.wrap ((B.length : Int) + (co : Int) - (B.length : Int)) = (co : Int) := by rw [show (B.length : Int) + (co : Int) - (B.length : Int) = (co : Int) from by omega]; exact IntWalk.i64_in _ (by omega)
        have e3 : decide (co < 1) = false := decide_eq_false (by omega)
        have e4 : decide (78 < co) = false := decide_eq_false (by omega)
        have e5 : decide ((co : Int) < 1) = false := decide_eq_false (by omega)
        have e6 : decide ((78 : Int) < (co : Int)) = false := decide_eq_false (by omega)
        clear hyv2
        have hh5 : VStayHeld w p (B ++ C) gt y s _ := ⟨HY5.out, HS5.out, HH5.out⟩
        clear HY5 HS5 HH5
        go_upto_region 13 with fail
        go_region_held3 (fun W => W.cell? ⟨gt, 0, none⟩ = some (.int .i64 ((s.n + 1 : Nat) : Int)) ∧ W.cell? ⟨gt, 1, none⟩ = some (.int .u64 v) ∧ W.cell? ⟨gt, 2, none⟩ = some (.int .i64 y.l) ∧ W.cell? ⟨gt, 3, none⟩ = some (.int .i64 y.t) ∧ W.cell? ⟨w.heap.size, 0, none⟩ = some (.int .i64 s.n) ∧ W.cell? (ad.add k) = some (.int .u64 v) ∧ VStayHeld w p (B ++ C) gt y s W)
          (first | exact ⟨y0, y1, y2, y3, a0, c0, hh5.drew⟩ | (go_split_ands; refine ⟨?_, ?_, ?_, ?_, ?_, ?_, ?_⟩ <;> first | assumption | exact cell_keep (by assumption) hb2 | exact VStayHeld.later (by assumption) hb2))
          (first | (go_at_call 15; refine (HVAL2.out _).mono ?_; rintro e W2 ⟨rfl, hb2⟩) | (go_at_call 16; go_split_ands; refine (HLEN.out _ (by assumption)).mono ?_; rintro e W2 ⟨rfl, rfl⟩) | (go_at_call 17; go_split_ands; refine (HC2.out _ (VStayHeld.tab (by assumption) HT.out)).mono ?_; rintro e W2 ⟨rfl, hb2⟩))
        go_split_ands
        have hf : VStayHeld w p (B ++ C) gt y s W2 := by assumption
        have s0c := hf.ns.cells.1; have s1c := hf.ns.cells.2.1; have s2c := hf.ns.cells.2.2.1; have s3c := hf.ns.cells.2.2.2
        have f0 := hf.ns.free.1; have f1 := hf.ns.free.2.1; have f2 := hf.ns.free.2.2.1; have f3 := hf.ns.free.2.2.2
        have hyn1 : ((y.n : Nat) : Int) = (s.n : Int) + 1 := by have := HYN.out; omega
        have hgr := grown_four W2 w.heap.size 0 1 2 3 (.int .i64 y.n) (.int .u64 y.v) (.int .i64 y.l) (.int .i64 y.t)
        have h9 := hf.ns.set y
        have hh9 := VStays.over hf.wr hf.ns hgr (by omega) (Nat.le_refl _)
        rw [hyn1, HYV.out] at h9 hh9
        have HY9 := Lib.hid h9; have HH9 := Lib.hid hh9
        have hyn2 := HYN.out
        clear h9 hh9 hgr hyn1 hf
        go_wp2_with fail
        go_roundw
        case rel => exact ⟨k + 1, y, B ++ C, by omega, by go_num, HY9.out, HYOK.out, by omega, by rw [List.length_append, HCL.out]; omega, HH9.out⟩
        case measure => simp [intOf]; omega
    · obtain rfl : k = len := by omega
      go_wp2_with fail
      go_ret
      exact ⟨rfl, HH.out.bel⟩
end Go.Proofs.YtahdfcflgicpkaaDoor
