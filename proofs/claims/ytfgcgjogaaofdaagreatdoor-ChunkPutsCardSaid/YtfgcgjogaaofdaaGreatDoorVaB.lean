/-
  What Put of package value comes to.
-/
import Derived.Test.YtfgcgjogaaofdaaGreatDoorVaA
namespace Go.Proofs.YtfgcgjogaaofdaaGreatDoor
open Go.RowKit

theorem vrow_not {W : World} {base p cap k : Nat} {A : Option Addr} {B : List Bool} {cs : Array Value} {t : TypeId} (h : WrAt W base p A cap B) (hk : W.heap[k]? = some (.cells cs t (0, 0))) (ht : 5 ≠ t) (hp : k ≠ p) : ¬ PutSet p A k := by
  rintro (e | h2)
  · exact hp e
  · rcases h.row_at with rfl | ⟨g, rfl, _⟩
    · cases h2
    · have : g = k := by simpa using h2
      exact own_ne h.own hk ht this
/-- within a Put: the state that came in, the result's cells, the state behind, and the writer -/
structure VAt (base p : Nat) (A : Option Addr) (w : World) (s x : Va.S) (gy : Nat) (B : List Bool) (W : World) : Prop where
  s : VStAt W w.heap.size s
  r : VStAt W (w.heap.size + 1) ⟨0, 0, 0, 0⟩
  y : VStAt W gy x
  row : ∃ A2 cap2, NewRow w A A2 ∧ WrAt W base p A2 cap2 B
  far : Far w W (PutSet p A)
  ge : w.heap.size + 2 ≤ gy
theorem VAt.size {base p gy : Nat} {A : Option Addr} {B : List Bool} {w W : World} {s x : Va.S} (h : VAt base p A w s x gy B W) : w.heap.size + 2 ≤ W.heap.size := by
  have := h.y.lt; have := h.ge; omega
theorem VAt.below {base p gy : Nat} {A : Option Addr} {B : List Bool} {w W W2 : World} {s x : Va.S} (h : VAt base p A w s x gy B W) (hb : Below W.heap.size W W2) : VAt base p A w s x gy B W2 := by
  obtain ⟨A2, cap2, hN, hw⟩ := h.row
  exact ⟨h.s.later hb, h.r.later hb, h.y.later hb, ⟨A2, cap2, hN, hw.later hb⟩, h.far.trans (far_of_below hb (fun _ => False)) (fun k e => e.elim), h.ge⟩
theorem VAt.drew {base p gy : Nat} {A : Option Addr} {B : List Bool} {w W : World} {s x : Va.S} (h : VAt base p A w s x gy B W) : VAt base p A w s x gy B W.drew := by
  obtain ⟨A2, cap2, hN, hw⟩ := h.row
  exact ⟨h.s, h.r, h.y, ⟨A2, cap2, hN, hw.drew⟩, h.far.step (grown_drew (grown_refl W none)) (fun r e => by cases e), h.ge⟩
theorem VAt.put {base p gy cap1 cap2 : Nat} {A A1 A2 : Option Addr} {B B2 : List Bool} {w W W2 : World} {s x : Va.S} (h : VAt base p A w s x gy B W) (hp : p < w.heap.size)
    (hN1 : NewRow w A A1) (hw1 : WrAt W base p A1 cap1 B) (hw : WrAt W2 base p A2 cap2 B2) (hN : NewRow W A1 A2) (hF : Far W W2 (PutSet p A1)) : VAt base p A w s x gy B2 W2 := by
  have hs := h.size
  have hg := h.ge
  refine ⟨(hF.same _ h.s.lt (vrow_not hw1 h.s (by decide) (by omega))).trans h.s, (hF.same _ h.r.lt (vrow_not hw1 h.r (by decide) (by omega))).trans h.r, (hF.same _ h.y.lt (vrow_not hw1 h.y (by decide) (by omega))).trans h.y, ⟨A2, cap2, hN1.step hN (by omega), hw⟩, ?_, hg⟩
  refine h.far.trans hF ?_
  rintro k (e | e)
  · exact .inl (.inl e)
  · rcases hN1 with rfl | ⟨g, rfl, hgg⟩
    · exact .inl (.inr e)
    · right
      have : g = k := by simpa using e
      omega
theorem VAt.over {base p gy : Nat} {A : Option Addr} {B : List Bool} {w W W2 : World} {s x : Va.S} (h : VAt base p A w s x gy B W) (hp : p < w.heap.size) {row : Option Nat} (hg : W.grownBy W2 row) (hr : row = some (w.heap.size + 1)) :
    ∃ A2 cap2, WrAt W2 base p A2 cap2 B ∧ NewRow w A A2 ∧ Far w W2 (PutSet p A) := by
  have hs := h.size
  obtain ⟨A2, cap2, hN, hw⟩ := h.row
  refine ⟨A2, cap2, RowAt.keep hw (hg.block p (by omega) (by rw [hr]; simp; omega)) (fun g e => ?_), hN, h.far.step hg (fun r e => .inr (by rw [hr] at e; cases e; omega))⟩
  have hne : g ≠ w.heap.size + 1 := by subst e; exact own_ne hw.own h.r (by decide)
  have hlt : g < W.heap.size := by subst e; exact (row_block hw.own rfl).2.1
  exact hg.block g hlt (by rw [hr]; simp; omega)
theorem Only.here {K : Act → World → Prop} {a : Act} {w : World} (h : K a w) : Only K .normal a w := h
def VCells (g : Nat) (s : Va.S) (U : World) : Prop := U.cell? ⟨g, 0, none⟩ = some (.int .i64 s.n) ∧ U.cell? ⟨g, 1, none⟩ = some (.int .u64 s.v) ∧ U.cell? ⟨g, 2, none⟩ = some (.int .i64 s.l) ∧ U.cell? ⟨g, 3, none⟩ = some (.int .i64 s.t)
theorem VStAt.drew {W : World} {g : Nat} {s : Va.S} (h : VStAt W g s) : VStAt W.drew g s := h
theorem TabOk.pos {W : World} (h : TabOk W) : 2 ≤ W.heap.size := block_lt_of_cell (h 0 (by decide))
theorem TabOk.grown {W W2 : World} {row : Option Nat} (h : TabOk W) (hg : W.grownBy W2 row) (hr : ∀ r, row = some r → 2 ≤ r) : TabOk W2 := fun j hj => by
  have h0 := h j hj
  have hb : Below 2 W W2 := (Below.refl 2 W).grown hg h.pos hr
  exact (hb.cell (p := ⟨1, j, none⟩) (Nat.lt_succ_self 1)).trans h0
set_option maxRecDepth 100000 in
set_option maxHeartbeats 8000000 in
theorem vPut_any (base p : Nat) (A : Option Addr) (cap : Nat) (B : List Bool) (hB : B.length ≤ 549755813000) (s : Va.S) (hok : s.ok) (hn : s.n < 2199023255552) (v : Nat) (hv : v < 18446744073709551616) (w : World) (hT : TabOk w) (hw : WrAt w base p A cap B) (hbase : base ≤ w.heap.size) :
    Calls Tryz.prog 73 #[.pointer (some ⟨p, 0, none⟩), s.val, .int .u64 v] w fun e w' => e = .returned (s.next v).val ∧
      ∃ A2 cap2, WrAt w' base p A2 cap2 (B ++ s.code v) ∧ NewRow w A A2 ∧ Far w w' (PutSet p A) := by
  have hpl : p < w.heap.size := hw.lt
  have hx := Va.xor_lt hv hok.v
  have exor : bits BinOp.xor .u64 (v : Int) (s.v : Int) = ((v ^^^ s.v : Nat) : Int) := u64_xor_nat _ _ hv hok.v
  have hval : ∀ s : Va.S, s.val = .agg #[.int .i64 s.n, .int .u64 s.v, .int .i64 s.l, .int .i64 s.t] := fun _ => rfl
  have hnok := (Va.next_ok hok v hv hn).1
  have hvalid := fun W => Valid_any s.n s.v s.l s.t W
  rw [Va.S.valid hok] at hvalid
  have hnext := fun W h => vnext_any s hok hn v hv W h
  have hway := fun W h => wayOf_any s hok (v ^^^ s.v) hx W h
  have hwin1 := fun W => inWindow_any s hok W
  have hwin2 := fun W => inWindow_any (s.next v) hnok W
  have hcode : s.code v = if Va.way s (v ^^^ s.v) = 0 then Bit.of v 64 else if Va.way s (v ^^^ s.v) = 1 then Bit.of 0 1 else
      if Va.way s (v ^^^ s.v) = 2 then Bit.of 2 2 ++ Bit.of ((v ^^^ s.v) / 2 ^ s.t) s.win else
      Bit.of 3 2 ++ Bit.of (s.next v).l 6 ++ Bit.of ((s.next v).win - 1) 6 ++ Bit.of ((v ^^^ s.v) / 2 ^ (s.next v).t) (s.next v).win := rfl
  have hwl := Va.way_lt s (v ^^^ s.v)
  have hy3 : Va.way s (v ^^^ s.v) = 3 → (s.next v).l + (s.next v).t ≤ 63 := fun h3 => by
    have h := Va.ends hx (Va.way_three h3).2
    unfold Va.S.next; rw [if_pos h3]; exact h.1
  have hs2 : Va.way s (v ^^^ s.v) = 2 → s.l + s.t ≤ 63 := fun h2 => by
    have h := (Va.way_two.1 h2).2.2.1
    have := hok.w; omega
  have hw1 := Va.win_le s
  have hw2 := Va.win_le (s.next v)
  have hy3w : (s.next v).win = 64 - (s.next v).l - (s.next v).t := rfl
  generalize hC : s.code v = C at *
  generalize hxe : v ^^^ s.v = x at *
  generalize hye : s.next v = y at *
  generalize Va.way s x = k at *
  rw [hval] at hnext hway hwin1 hwin2
  have b1 : Below w.heap.size w ((w.alloc (.cells #[.int .i64 s.n, .int .u64 s.v, .int .i64 s.l, .int .i64 s.t] 104)).alloc (.cells #[.int .i64 0, .int .u64 0, .int .i64 0, .int .i64 0] 104)) := ((Below.refl _ _).alloc (Nat.le_refl _) _).alloc (by simp) _
  have hS : VStAt ((w.alloc (.cells #[.int .i64 s.n, .int .u64 s.v, .int .i64 s.l, .int .i64 s.t] 104)).alloc (.cells #[.int .i64 0, .int .u64 0, .int .i64 0, .int .i64 0] 104)) w.heap.size s := (RowIs.under _ _ _ _ (by simp)).mpr (RowIs.one _ _)
  have hR : VStAt ((w.alloc (.cells #[.int .i64 s.n, .int .u64 s.v, .int .i64 s.l, .int .i64 s.t] 104)).alloc (.cells #[.int .i64 0, .int .u64 0, .int .i64 0, .int .i64 0] 104)) (w.heap.size + 1) ⟨0, 0, 0, 0⟩ := RowIs.two _ _ _
  have HVALID := Lib.hid hvalid; have HNEXT := Lib.hid hnext; have HWAY := Lib.hid hway; have HWIN1 := Lib.hid hwin1; have HWIN2 := Lib.hid hwin2; have HCODE := Lib.hid hcode
  have HT1 : Hid (TabOk _) := Lib.hid (hT.later b1); have HW1 := Lib.hid (hw.later b1); have HB1 := Lib.hid b1; have HS := Lib.hid hS; have HR := Lib.hid hR
  have HHV := Lib.hid hv; have HHX := Lib.hid hx; have HNOK := Lib.hid hnok; have HOK := Lib.hid hok; have HY3W := Lib.hid hy3w
  clear hvalid hnext hway hwin1 hwin2 hcode hT hw b1 hS hR hv hx hnok hok hC hxe hye hy3w
  rw [hval s]
  go_enter Tryz.func73, Tryz.ntmps73
  have s0 := HS.out.cells.1; have s1 := HS.out.cells.2.1; have s2 := HS.out.cells.2.2.1; have s3 := HS.out.cells.2.2.2
  go_wp2_with fail
  refine (HVALID.out _).mono ?_; rintro e w3 ⟨rfl, hb3⟩
  have HS3 := Lib.hid (HS.out.later hb3); have HR3 := Lib.hid (HR.out.later hb3); have HW3 := Lib.hid (HW1.out.later hb3); have HT3 : Hid (TabOk w3) := Lib.hid (HT1.out.later hb3)
  have HB3 := Lib.hid (HB1.out.trans (hb3.mono HB1.out.size))
  clear hb3 s0 s1 s2 s3 HS HR HW1 HT1 HB1
  have s0 := HS3.out.cells.1; have s1 := HS3.out.cells.2.1; have s2 := HS3.out.cells.2.2.1; have s3 := HS3.out.cells.2.2.2
  go_upto_region 3 with fail
  go_cut [7, 8] (fun s7 s8 wx => ∃ gy : Nat, s7 = .int .u64 x ∧ s8 = .pointer (some ⟨gy, 0, none⟩) ∧ VAt base p A w s y gy B wx ∧ TabOk wx)
  case first =>
    have hS : w3.drew.cell? ⟨w.heap.size, 0, none⟩ = some (.int .i64 s.n) ∧ w3.drew.cell? ⟨w.heap.size, 1, none⟩ = some (.int .u64 s.v) ∧ w3.drew.cell? ⟨w.heap.size, 2, none⟩ = some (.int .i64 s.l) ∧ w3.drew.cell? ⟨w.heap.size, 3, none⟩ = some (.int .i64 s.t) := ⟨s0, s1, s2, s3⟩
    have hkeep : ∀ W W2 : World, (W.cell? ⟨w.heap.size, 0, none⟩ = some (.int .i64 s.n) ∧ W.cell? ⟨w.heap.size, 1, none⟩ = some (.int .u64 s.v) ∧ W.cell? ⟨w.heap.size, 2, none⟩ = some (.int .i64 s.l) ∧ W.cell? ⟨w.heap.size, 3, none⟩ = some (.int .i64 s.t)) → Below W.heap.size W W2 →
        (W2.cell? ⟨w.heap.size, 0, none⟩ = some (.int .i64 s.n) ∧ W2.cell? ⟨w.heap.size, 1, none⟩ = some (.int .u64 s.v) ∧ W2.cell? ⟨w.heap.size, 2, none⟩ = some (.int .i64 s.l) ∧ W2.cell? ⟨w.heap.size, 3, none⟩ = some (.int .i64 s.t)) := fun W W2 h hb => ⟨cell_keep h.1 hb, cell_keep h.2.1 hb, cell_keep h.2.2.1 hb, cell_keep h.2.2.2 hb⟩
    have HKEEP := Lib.hid hkeep; clear hkeep
    have HAL : Hid (∀ (W : World) (o : Obj), Below W.heap.size W (W.alloc o)) := Lib.hid (fun W o => (Below.refl _ _).alloc (Nat.le_refl _) _)
    have HSd : Hid (VStAt w3.drew w.heap.size s) := Lib.hid HS3.out.drew
    have HRd : Hid (VStAt w3.drew (w.heap.size + 1) ⟨0, 0, 0, 0⟩) := Lib.hid HR3.out.drew
    have HWd := Lib.hid HW3.out.drew
    have HTd : Hid (TabOk w3.drew) := Lib.hid (fun j hj => HT3.out j hj)
    have HFd : Hid (Far w w3.drew (PutSet p A)) := Lib.hid ((far_of_below HB3.out _).step (grown_drew (grown_refl w3 none)) (fun r e => by cases e))
    clear s0 s1 s2 s3 HS3 HR3 HW3 HT3 HB3
    have hzd := HRd.out.lt
    refine plain_held (fun U => U.cell? ⟨w.heap.size, 0, none⟩ = some (.int .i64 s.n) ∧ U.cell? ⟨w.heap.size, 1, none⟩ = some (.int .u64 s.v) ∧ U.cell? ⟨w.heap.size, 2, none⟩ = some (.int .i64 s.l) ∧ U.cell? ⟨w.heap.size, 3, none⟩ = some (.int .i64 s.t)) (by kernel_rfl) ?_
    generalize w3.drew = wd at *
    refine wpAnyH_pick (by kernel_rfl) Only.panic (w := wd) hS [0, 1, 2, 3, 4, 5] 4 _ _ (by kernel_rfl) ?_
    refine PickOk.value (v := .int .u64 v) rfl rfl (by kernel_rfl) (fun U hU => (by go_simp)) ?_
    refine PickOk.value (v := .pointer (some ⟨w.heap.size, 1, none⟩)) rfl rfl (by kernel_rfl) (fun U hU => (by obtain ⟨h0, h1, h2, h3⟩ := hU; go_simp)) ?_
    refine PickOk.value (v := .int .u64 s.v) rfl rfl (by kernel_rfl) (fun U hU => (by obtain ⟨h0, h1, h2, h3⟩ := hU; go_simp)) ?_
    refine PickOk.value (v := .int .u64 x) rfl rfl (by kernel_rfl) (fun U hU => (by go_simp)) ?_
    refine PickOk.value (v := .agg #[.int .i64 s.n, .int .u64 s.v, .int .i64 s.l, .int .i64 s.t]) rfl rfl (by kernel_rfl) (fun U hU => (by obtain ⟨h0, h1, h2, h3⟩ := hU; go_simp)) ?_
    refine PickOk.value (v := .int .u64 v) rfl rfl (by kernel_rfl) (fun U hU => (by go_simp)) ?_
    simp only [PickOk, Act.put, List.setIfInBounds_toArray]
    refine wpAnyH_two (i := 6) (j := 7) (by kernel_rfl) rfl rfl (by kernel_rfl) (by kernel_rfl) ?_ ?_
    · intro K hK
      unfold Oper.wp
      go_simp
      refine (HNEXT.out _ HTd.out).mono ?_; rintro e w6 ⟨rfl, hb6⟩
      refine hK _ _ (HKEEP.out _ _ hS hb6) (fun hS6 => ?_)
      clear hK K
      have HT7 : Hid (TabOk _) := Lib.hid ((HTd.out.later hb6).later (HAL.out _ (.cells #[.int .i64 0, .int .u64 0, .int .i64 0, .int .i64 0] 104))); have HS6 := Lib.hid (HSd.out.later hb6); have HR6 := Lib.hid (HRd.out.later hb6); have HW6 := Lib.hid (HWd.out.later hb6); have HF6 : Hid (Far w w6 (PutSet p A)) := Lib.hid (HFd.out.trans (far_of_below hb6 (fun _ => False)) (fun k e => e.elim))
      have hz6 := HR6.out.lt
      clear hb6
      refine wpAnyH_one (i := 7) (by kernel_rfl) rfl (by kernel_rfl) ?_
      intro K hK
      unfold Oper.wp
      go_simp
      refine hK _ _ (HKEEP.out _ _ hS6 (HAL.out _ _)) (fun hS7 => ?_)
      clear hK K
      have HY7 : Hid (VStAt (w6.alloc (.cells #[.int .i64 0, .int .u64 0, .int .i64 0, .int .i64 0] 104)) w6.heap.size ⟨0, 0, 0, 0⟩) := Lib.hid (RowIs.one _ _)
      have HS7 := Lib.hid (HS6.out.later (HAL.out w6 (.cells #[.int .i64 0, .int .u64 0, .int .i64 0, .int .i64 0] 104))); have HR7 := Lib.hid (HR6.out.later (HAL.out w6 (.cells #[.int .i64 0, .int .u64 0, .int .i64 0, .int .i64 0] 104))); have HW7 := Lib.hid (HW6.out.later (HAL.out w6 (.cells #[.int .i64 0, .int .u64 0, .int .i64 0, .int .i64 0] 104)))
      have HF7 : Hid (Far w (w6.alloc (.cells #[.int .i64 0, .int .u64 0, .int .i64 0, .int .i64 0] 104)) (PutSet p A)) := Lib.hid (HF6.out.trans (far_of_below (HAL.out _ _) (fun _ => False)) (fun k e => e.elim))
      generalize w6.alloc (.cells #[.int .i64 0, .int .u64 0, .int .i64 0, .int .i64 0] 104) = w7 at *
      generalize w6.heap.size = gy at *
      refine wpAnyH_pick (by kernel_rfl) Only.panic (w := w7) hS7 [8] 1 _ _ (by kernel_rfl) ?_
      refine PickOk.value (v := .int .u64 x) rfl rfl (by kernel_rfl) (fun U hU => (by go_simp)) ?_
      simp only [PickOk, Act.put, List.setIfInBounds_toArray]
      try rw [hval y]
      refine wpAnyH_one (i := 9) (by kernel_rfl) rfl (by kernel_rfl) ?_
      intro K hK
      have y0 := HY7.out.cells.1; have y1 := HY7.out.cells.2.1; have y2 := HY7.out.cells.2.2.1; have y3 := HY7.out.cells.2.2.2
      have f0 := HY7.out.free.1; have f1 := HY7.out.free.2.1; have f2 := HY7.out.free.2.2.1; have f3 := HY7.out.free.2.2.2
      have hgr := grown_four w7 gy 0 1 2 3 (.int .i64 y.n) (.int .u64 y.v) (.int .i64 y.l) (.int .i64 y.t)
      have HY8 := Lib.hid (HY7.out.set y)
      have HS8 := Lib.hid (HS7.out.grown hgr (by simp; omega)); have HR8 := Lib.hid (HR7.out.grown hgr (by simp; omega))
      have HF8 : Hid (Far w _ (PutSet p A)) := Lib.hid (HF7.out.step hgr (fun r e => by cases e; exact .inr (by omega)))
      have HW8 : Hid (WrAt _ base p A cap B) := Lib.hid (RowAt.keep HW7.out (hgr.block _ HW7.out.lt (by simp; omega)) (fun r hr => hgr.block _ (by subst hr; exact (row_block HW7.out.own rfl).2.1) (by
        have hne : r ≠ gy := by subst hr; exact own_ne HW7.out.own HY7.out (by decide)
        simp; omega)))
      have HT8 : Hid (TabOk _) := Lib.hid (HT7.out.grown hgr (fun r e => by cases e; omega))
      clear hgr
      unfold Oper.wp
      go_simp
      refine hK _ _ HS8.out.cells (fun _ => ?_)
      clear hK K
      refine wpAnyH_done (by kernel_rfl) ?_ _
      refine Only.next ?_
      go_wp2_with fail
      go_meet
      exact ⟨gy, rfl, rfl, ⟨HS8.out, HR8.out, HY8.out, ⟨A, cap, .inl rfl, HW8.out⟩, HF8.out, by omega⟩, HT8.out⟩
    · intro K hK
      unfold Oper.wp
      go_simp
      refine hK _ _ (HKEEP.out _ _ hS (HAL.out _ _)) (fun hS6 => ?_)
      clear hK K
      have HY6 : Hid (VStAt (wd.alloc (.cells #[.int .i64 0, .int .u64 0, .int .i64 0, .int .i64 0] 104)) wd.heap.size ⟨0, 0, 0, 0⟩) := Lib.hid (RowIs.one _ _)
      have HS6 := Lib.hid (HSd.out.later (HAL.out wd (.cells #[.int .i64 0, .int .u64 0, .int .i64 0, .int .i64 0] 104))); have HR6 := Lib.hid (HRd.out.later (HAL.out wd (.cells #[.int .i64 0, .int .u64 0, .int .i64 0, .int .i64 0] 104))); have HW6 := Lib.hid (HWd.out.later (HAL.out wd (.cells #[.int .i64 0, .int .u64 0, .int .i64 0, .int .i64 0] 104)))
      have HF6 : Hid (Far w (wd.alloc (.cells #[.int .i64 0, .int .u64 0, .int .i64 0, .int .i64 0] 104)) (PutSet p A)) := Lib.hid (HFd.out.trans (far_of_below (HAL.out _ _) (fun _ => False)) (fun k e => e.elim))
      have HT6 : Hid (TabOk (wd.alloc (.cells #[.int .i64 0, .int .u64 0, .int .i64 0, .int .i64 0] 104))) := Lib.hid (HTd.out.later (HAL.out _ _))
      have hz6 := hzd
      generalize wd.alloc (.cells #[.int .i64 0, .int .u64 0, .int .i64 0, .int .i64 0] 104) = w6 at *
      generalize wd.heap.size = gy at *
      refine wpAnyH_one (i := 6) (by kernel_rfl) rfl (by kernel_rfl) ?_
      intro K hK
      unfold Oper.wp
      go_simp
      refine (HNEXT.out _ HT6.out).mono ?_; rintro e w7 ⟨rfl, hb7⟩
      refine hK _ _ (HKEEP.out _ _ hS6 hb7) (fun hS7 => ?_)
      clear hK K
      have HT7 : Hid (TabOk w7) := Lib.hid (HT6.out.later hb7); have HY7 := Lib.hid (HY6.out.later hb7); have HS7 := Lib.hid (HS6.out.later hb7); have HR7 := Lib.hid (HR6.out.later hb7); have HW7 := Lib.hid (HW6.out.later hb7)
      have HF7 : Hid (Far w w7 (PutSet p A)) := Lib.hid (HF6.out.trans (far_of_below hb7 (fun _ => False)) (fun k e => e.elim))
      clear hb7
      refine wpAnyH_pick (by kernel_rfl) Only.panic (w := w7) hS7 [8] 1 _ _ (by kernel_rfl) ?_
      refine PickOk.value (v := .int .u64 x) rfl rfl (by kernel_rfl) (fun U hU => (by go_simp)) ?_
      simp only [PickOk, Act.put, List.setIfInBounds_toArray]
      try rw [hval y]
      refine wpAnyH_one (i := 9) (by kernel_rfl) rfl (by kernel_rfl) ?_
      intro K hK
      have y0 := HY7.out.cells.1; have y1 := HY7.out.cells.2.1; have y2 := HY7.out.cells.2.2.1; have y3 := HY7.out.cells.2.2.2
      have f0 := HY7.out.free.1; have f1 := HY7.out.free.2.1; have f2 := HY7.out.free.2.2.1; have f3 := HY7.out.free.2.2.2
      have hgr := grown_four w7 gy 0 1 2 3 (.int .i64 y.n) (.int .u64 y.v) (.int .i64 y.l) (.int .i64 y.t)
      have HY8 := Lib.hid (HY7.out.set y)
      have HS8 := Lib.hid (HS7.out.grown hgr (by simp; omega)); have HR8 := Lib.hid (HR7.out.grown hgr (by simp; omega))
      have HF8 : Hid (Far w _ (PutSet p A)) := Lib.hid (HF7.out.step hgr (fun r e => by cases e; exact .inr (by omega)))
      have HW8 : Hid (WrAt _ base p A cap B) := Lib.hid (RowAt.keep HW7.out (hgr.block _ HW7.out.lt (by simp; omega)) (fun r hr => hgr.block _ (by subst hr; exact (row_block HW7.out.own rfl).2.1) (by
        have hne : r ≠ gy := by subst hr; exact own_ne HW7.out.own HY7.out (by decide)
        simp; omega)))
      have HT8 : Hid (TabOk _) := Lib.hid (HT7.out.grown hgr (fun r e => by cases e; omega))
      clear hgr
      unfold Oper.wp
      go_simp
      refine hK _ _ HS8.out.cells (fun _ => ?_)
      clear hK K
      refine wpAnyH_done (by kernel_rfl) ?_ _
      refine Only.next ?_
      go_wp2_with fail
      go_meet
      exact ⟨gy, rfl, rfl, ⟨HS8.out, HR8.out, HY8.out, ⟨A, cap, .inl rfl, HW8.out⟩, HF8.out, by omega⟩, HT8.out⟩
  case rest =>
    obtain ⟨gy, rfl, rfl, hat, htab⟩ := hcut
    have HPL := Lib.hid hpl
    have HAT := Lib.hid hat; have HTAB := Lib.hid htab
    have hge := hat.ge
    clear hat htab s0 s1 s2 s3 HS3 HR3 HW3 HT3 HB3
    have s0 := HAT.out.s.cells.1; have s1 := HAT.out.s.cells.2.1; have s2 := HAT.out.s.cells.2.2.1; have s3 := HAT.out.s.cells.2.2.2
    go_wp2_with fail
    refine (HWAY.out _ HTAB.out).mono ?_; rintro e w4 ⟨rfl, hb4⟩
    have HA4 := Lib.hid (HAT.out.below hb4); clear hb4 s0 s1 s2 s3 HAT HTAB
    obtain rfl | rfl | rfl | rfl : k = 0 ∨ k = 1 ∨ k = 2 ∨ k = 3 := by omega
    · have HCD : Hid (C = Bit.of v 64) := Lib.hid (HCODE.out.trans (if_pos rfl))
      go_wp2_with fail
      obtain ⟨A5, c5, hN5, hw5⟩ := HA4.out.row
      refine (Put_any base p A5 c5 _ (by first | omega | (simp only [List.length_append, Bit.of_length]; omega)) v HHV 64 _ hw5 (by have := HA4.out.size; omega)).mono ?_
      rintro e w5 ⟨rfl, B5, d5, hq5, hM5, hF5⟩
      rw [show Bit.wd 64 = 64 from rfl] at hq5
      have HA5 := Lib.hid (HA4.out.put HPL.out hN5 hw5 hq5 hM5 hF5)
      clear hN5 hw5 hq5 hM5 hF5
      have y0 := HA5.out.y.cells.1; have y1 := HA5.out.y.cells.2.1; have y2 := HA5.out.y.cells.2.2.1; have y3 := HA5.out.y.cells.2.2.2
      have r0 := HA5.out.r.cells.1; have r1 := HA5.out.r.cells.2.1; have r2 := HA5.out.r.cells.2.2.1; have r3 := HA5.out.r.cells.2.2.2
      have f0 := HA5.out.r.free.1; have f1 := HA5.out.r.free.2.1; have f2 := HA5.out.r.free.2.2.1; have f3 := HA5.out.r.free.2.2.2
      go_wp2_with fail
      refine bodyPost_ret (v := .agg #[.int .i64 y.n, .int .u64 y.v, .int .i64 y.l, .int .i64 y.t]) (by simp [results, go_sem, r0, r1, r2, r3]) rfl ⟨rfl, ?_⟩
      rw [HCD.out]
      obtain ⟨A2, c2, h1, h2, h3⟩ := HA5.out.over HPL.out (grown_four _ (w.heap.size + 1) 0 1 2 3 (.int .i64 y.n) (.int .u64 y.v) (.int .i64 y.l) (.int .i64 y.t)) rfl
      first | exact ⟨A2, c2, h1, h2, h3⟩ | exact ⟨A2, ⟨c2, h1⟩, h2, h3⟩
    · have HCD : Hid (C = Bit.of 0 1) := Lib.hid (HCODE.out.trans (by rw [if_neg (by decide), if_pos rfl]))
      go_wp2_with fail
      obtain ⟨A5, c5, hN5, hw5⟩ := HA4.out.row
      refine (Put_any base p A5 c5 _ (by first | omega | (simp only [List.length_append, Bit.of_length]; omega)) 0 (Lib.hid (by omega)) 1 _ hw5 (by have := HA4.out.size; omega)).mono ?_
      rintro e w5 ⟨rfl, B5, d5, hq5, hM5, hF5⟩
      rw [show Bit.wd 1 = 1 from rfl] at hq5
      have HA5 := Lib.hid (HA4.out.put HPL.out hN5 hw5 hq5 hM5 hF5)
      clear hN5 hw5 hq5 hM5 hF5
      have y0 := HA5.out.y.cells.1; have y1 := HA5.out.y.cells.2.1; have y2 := HA5.out.y.cells.2.2.1; have y3 := HA5.out.y.cells.2.2.2
      have r0 := HA5.out.r.cells.1; have r1 := HA5.out.r.cells.2.1; have r2 := HA5.out.r.cells.2.2.1; have r3 := HA5.out.r.cells.2.2.2
      have f0 := HA5.out.r.free.1; have f1 := HA5.out.r.free.2.1; have f2 := HA5.out.r.free.2.2.1; have f3 := HA5.out.r.free.2.2.2
      go_wp2_with fail
      refine bodyPost_ret (v := .agg #[.int .i64 y.n, .int .u64 y.v, .int .i64 y.l, .int .i64 y.t]) (by simp [results, go_sem, r0, r1, r2, r3]) rfl ⟨rfl, ?_⟩
      rw [HCD.out]
      obtain ⟨A2, c2, h1, h2, h3⟩ := HA5.out.over HPL.out (grown_four _ (w.heap.size + 1) 0 1 2 3 (.int .i64 y.n) (.int .u64 y.v) (.int .i64 y.l) (.int .i64 y.t)) rfl
      first | exact ⟨A2, c2, h1, h2, h3⟩ | exact ⟨A2, ⟨c2, h1⟩, h2, h3⟩
    · have HCD : Hid (C = Bit.of 2 2 ++ Bit.of (x / 2 ^ s.t) s.win) := Lib.hid (HCODE.out.trans (by rw [if_neg (by decide), if_neg (by decide), if_pos rfl]))
      have hst := hs2 rfl
      go_wp2_with fail
      obtain ⟨A5, c5, hN5, hw5⟩ := HA4.out.row
      refine (Put_any base p A5 c5 _ (by first | omega | (simp only [List.length_append, Bit.of_length]; omega)) 2 (Lib.hid (by omega)) 2 _ hw5 (by have := HA4.out.size; omega)).mono ?_
      rintro e w5 ⟨rfl, B5, d5, hq5, hM5, hF5⟩
      rw [show Bit.wd 2 = 2 from rfl] at hq5
      have HA5 := Lib.hid (HA4.out.put HPL.out hN5 hw5 hq5 hM5 hF5)
      clear hN5 hw5 hq5 hM5 hF5
      go_upto_region 11 with fail
      have ht64 : s.t ≤ 64 := by omega
      have evx : (x : Int) / 2 ^ s.t = ((x / 2 ^ s.t : Nat) : Int) := by rw [Int.natCast_ediv, Int.natCast_pow]; rfl
      have hxl : x / 2 ^ s.t < 18446744073709551616 := Nat.lt_of_le_of_lt (Nat.div_le_self _ _) HHX.out
      have HXL := Lib.hid hxl; clear hxl
      have HEX := Lib.hid evx
      have hS : VCells w.heap.size s _ := HA5.out.drew.s.cells
      have HAD := Lib.hid HA5.out.drew
      refine plain_held (VCells w.heap.size s) (by kernel_rfl) ?_
      generalize hwd : World.drew _ = wd at hS HAD ⊢
      clear hwd
      generalize hqq : x / 2 ^ s.t = xq at *
      refine wpAnyH_pick (by kernel_rfl) Only.panic (w := wd) hS [0, 1, 2, 3, 4, 5] 2 _ _ (by kernel_rfl) ?_
      refine PickOk.value (v := .pointer (some ⟨p, 0, none⟩)) rfl rfl (by kernel_rfl) (fun U hU => (by go_simp)) ?_
      refine PickOk.value (v := .int .u64 x) rfl rfl (by kernel_rfl) (fun U hU => (by go_simp)) ?_
      refine PickOk.value (v := .pointer (some ⟨w.heap.size, 3, none⟩)) rfl rfl (by kernel_rfl) (fun U hU => (by obtain ⟨h0, h1, h2, h3⟩ := hU; go_simp)) ?_
      refine PickOk.value (v := .int .i64 s.t) rfl rfl (by kernel_rfl) (fun U hU => (by obtain ⟨h0, h1, h2, h3⟩ := hU; go_simp)) ?_
      refine PickOk.value (v := .int .u64 xq) rfl rfl (by kernel_rfl) (fun U hU => (by go_simp)) ?_
      refine PickOk.value (v := .agg #[.int .i64 s.n, .int .u64 s.v, .int .i64 s.l, .int .i64 s.t]) rfl rfl (by kernel_rfl) (fun U hU => (by obtain ⟨h0, h1, h2, h3⟩ := hU; go_simp)) ?_
      simp only [PickOk, Act.put, List.setIfInBounds_toArray]
      clear evx
      refine wpAnyH_one (i := 6) (by kernel_rfl) rfl (by kernel_rfl) ?_
      intro K hK
      unfold Oper.wp
      go_simp
      refine (HWIN1.out _).mono ?_; rintro e we ⟨rfl, hbe⟩
      have HAE := Lib.hid (HAD.out.below hbe)
      refine hK _ _ HAE.out.s.cells (fun _ => ?_)
      clear hK K hbe hS
      refine wpAnyH_one (i := 7) (by kernel_rfl) rfl (by kernel_rfl) ?_
      intro K hK
      unfold Oper.wp
      go_simp
      obtain ⟨A6, c6, hN6, hw6⟩ := HAE.out.row
      refine (Put_any base p A6 c6 _ (by first | omega | (simp only [List.length_append, Bit.of_length]; omega)) xq HXL (s.win : Int) _ hw6 (by have := HAE.out.size; omega)).mono ?_
      rintro e w6 ⟨rfl, B6, d6, hq6, hM6, hF6⟩
      rw [show Bit.wd ((s.win : Nat) : Int) = s.win from by unfold Bit.wd; omega] at hq6
      have HA6 := Lib.hid (HAE.out.put HPL.out hN6 hw6 hq6 hM6 hF6)
      clear hN6 hw6 hq6 hM6 hF6
      refine hK _ _ HA6.out.s.cells (fun _ => ?_)
      clear hK K
      refine wpAnyH_done (by kernel_rfl) ?_ _
      refine Only.here ?_
      have HA6 := Lib.hid (show VAt base p A w s y gy (B ++ C) w6 by rw [HCD.out, ← List.append_assoc]; exact HA6.out)
      have y0 := HA6.out.y.cells.1; have y1 := HA6.out.y.cells.2.1; have y2 := HA6.out.y.cells.2.2.1; have y3 := HA6.out.y.cells.2.2.2
      have r0 := HA6.out.r.cells.1; have r1 := HA6.out.r.cells.2.1; have r2 := HA6.out.r.cells.2.2.1; have r3 := HA6.out.r.cells.2.2.2
      have f0 := HA6.out.r.free.1; have f1 := HA6.out.r.free.2.1; have f2 := HA6.out.r.free.2.2.1; have f3 := HA6.out.r.free.2.2.2
      go_wp2_with fail
      refine bodyPost_ret (v := .agg #[.int .i64 y.n, .int .u64 y.v, .int .i64 y.l, .int .i64 y.t]) (by simp [results, go_sem, r0, r1, r2, r3]) rfl ⟨rfl, ?_⟩
      obtain ⟨A2, c2, h1, h2, h3⟩ := HA6.out.over HPL.out (grown_four _ (w.heap.size + 1) 0 1 2 3 (.int .i64 y.n) (.int .u64 y.v) (.int .i64 y.l) (.int .i64 y.t)) rfl
      first | exact ⟨A2, c2, h1, h2, h3⟩ | exact ⟨A2, ⟨c2, h1⟩, h2, h3⟩
    · have HCD : Hid (C = Bit.of 3 2 ++ Bit.of y.l 6 ++ Bit.of (y.win - 1) 6 ++ Bit.of (x / 2 ^ y.t) y.win) := Lib.hid (HCODE.out.trans (by rw [if_neg (by decide), if_neg (by decide), if_neg (by decide)]))
      have hyt := hy3 rfl
      have hyw1 : 1 ≤ y.win := by rw [HY3W.out]; omega
      go_wp2_with fail
      obtain ⟨A5, c5, hN5, hw5⟩ := HA4.out.row
      refine (Put_any base p A5 c5 _ (by first | omega | (simp only [List.length_append, Bit.of_length]; omega)) 3 (Lib.hid (by omega)) 2 _ hw5 (by have := HA4.out.size; omega)).mono ?_
      rintro e w5 ⟨rfl, B5, d5, hq5, hM5, hF5⟩
      rw [show Bit.wd 2 = 2 from rfl] at hq5
      have HA5 := Lib.hid (HA4.out.put HPL.out hN5 hw5 hq5 hM5 hF5)
      clear hN5 hw5 hq5 hM5 hF5
      have y2 := HA5.out.y.cells.2.2.1
      have el : IntKind.u64.wrap (y.l : Int) = ((y.l : Nat) : Int) := by rw [IntKind.wrap_u64]; omega
      go_wp2_with fail
      clear el y2
      obtain ⟨A6, c6, hN6, hw6⟩ := HA5.out.row
      refine (Put_any base p A6 c6 _ (by first | omega | (simp only [List.length_append, Bit.of_length]; omega)) y.l (Lib.hid (by omega)) 6 _ hw6 (by have := HA5.out.size; omega)).mono ?_
      rintro e w6 ⟨rfl, B6, d6, hq6, hM6, hF6⟩
      rw [show Bit.wd 6 = 6 from rfl] at hq6
      have HA6 := Lib.hid (HA5.out.put HPL.out hN6 hw6 hq6 hM6 hF6)
      clear hN6 hw6 hq6 hM6 hF6
      have y0 := HA6.out.y.cells.1; have y1 := HA6.out.y.cells.2.1; have y2 := HA6.out.y.cells.2.2.1; have y3 := HA6.out.y.cells.2.2.2
      go_wp2_with fail
      refine (HWIN2.out _).mono ?_; rintro e w7 ⟨rfl, hb7⟩
      have HA7 := Lib.hid (HA6.out.below hb7); clear hb7 y0 y1 y2 y3
      have ew1 : wrap64 ((y.win : Int) - 1) = ((y.win - 1 : Nat) : Int) := by rw [IntWalk.wrap64_in _ (by omega)]; omega
      have ew0 : (y.win : Int) - 1 = ((y.win - 1 : Nat) : Int) := by omega
      have ew2 : IntKind.u64.wrap ((y.win - 1 : Nat) : Int) = ((y.win - 1 : Nat) : Int) := by rw [IntKind.wrap_u64]; omega
      have hwl1 : y.win - 1 < 64 := by omega
      generalize hww : y.win - 1 = wm at *
      go_wp2_with fail
      clear ew0 ew1 ew2
      obtain ⟨A8, c8, hN8, hw8⟩ := HA7.out.row
      refine (Put_any base p A8 c8 _ (by first | omega | (simp only [List.length_append, Bit.of_length]; omega)) wm (Lib.hid (by omega)) 6 _ hw8 (by have := HA7.out.size; omega)).mono ?_
      rintro e w8 ⟨rfl, B8, d8, hq8, hM8, hF8⟩
      rw [show Bit.wd 6 = 6 from rfl] at hq8
      have HA8 := Lib.hid (HA7.out.put HPL.out hN8 hw8 hq8 hM8 hF8)
      clear hN8 hw8 hq8 hM8 hF8
      go_upto_region 16 with fail
      have ht64 : y.t ≤ 64 := by omega
      have evx : (x : Int) / 2 ^ y.t = ((x / 2 ^ y.t : Nat) : Int) := by rw [Int.natCast_ediv, Int.natCast_pow]; rfl
      have hxl : x / 2 ^ y.t < 18446744073709551616 := Nat.lt_of_le_of_lt (Nat.div_le_self _ _) HHX.out
      have HXL := Lib.hid hxl; clear hxl
      have HEX := Lib.hid evx
      have hS : VCells gy y _ := HA8.out.drew.y.cells
      have HAD := Lib.hid HA8.out.drew
      refine plain_held (VCells gy y) (by kernel_rfl) ?_
      generalize hwd : World.drew _ = wd at hS HAD ⊢
      clear hwd
      generalize hqq : x / 2 ^ y.t = xq at *
      refine wpAnyH_pick (by kernel_rfl) Only.panic (w := wd) hS [0, 1, 2, 3, 4, 5] 2 _ _ (by kernel_rfl) ?_
      refine PickOk.value (v := .pointer (some ⟨p, 0, none⟩)) rfl rfl (by kernel_rfl) (fun U hU => (by go_simp)) ?_
      refine PickOk.value (v := .int .u64 x) rfl rfl (by kernel_rfl) (fun U hU => (by go_simp)) ?_
      refine PickOk.value (v := .pointer (some ⟨gy, 3, none⟩)) rfl rfl (by kernel_rfl) (fun U hU => (by obtain ⟨h0, h1, h2, h3⟩ := hU; go_simp)) ?_
      refine PickOk.value (v := .int .i64 y.t) rfl rfl (by kernel_rfl) (fun U hU => (by obtain ⟨h0, h1, h2, h3⟩ := hU; go_simp)) ?_
      refine PickOk.value (v := .int .u64 xq) rfl rfl (by kernel_rfl) (fun U hU => (by go_simp)) ?_
      refine PickOk.value (v := .agg #[.int .i64 y.n, .int .u64 y.v, .int .i64 y.l, .int .i64 y.t]) rfl rfl (by kernel_rfl) (fun U hU => (by obtain ⟨h0, h1, h2, h3⟩ := hU; go_simp)) ?_
      simp only [PickOk, Act.put, List.setIfInBounds_toArray]
      clear evx
      refine wpAnyH_one (i := 6) (by kernel_rfl) rfl (by kernel_rfl) ?_
      intro K hK
      unfold Oper.wp
      go_simp
      refine (HWIN2.out _).mono ?_; rintro e we ⟨rfl, hbe⟩
      have HAE := Lib.hid (HAD.out.below hbe)
      refine hK _ _ HAE.out.y.cells (fun _ => ?_)
      clear hK K hbe hS
      refine wpAnyH_one (i := 7) (by kernel_rfl) rfl (by kernel_rfl) ?_
      intro K hK
      unfold Oper.wp
      go_simp
      obtain ⟨A9, c9, hN9, hw9⟩ := HAE.out.row
      refine (Put_any base p A9 c9 _ (by first | omega | (simp only [List.length_append, Bit.of_length]; omega)) xq HXL (y.win : Int) _ hw9 (by have := HAE.out.size; omega)).mono ?_
      rintro e w9 ⟨rfl, B9, d9, hq9, hM9, hF9⟩
      rw [show Bit.wd ((y.win : Nat) : Int) = y.win from by unfold Bit.wd; omega] at hq9
      have HA9 := Lib.hid (HAE.out.put HPL.out hN9 hw9 hq9 hM9 hF9)
      clear hN9 hw9 hq9 hM9 hF9
      refine hK _ _ HA9.out.y.cells (fun _ => ?_)
      clear hK K
      refine wpAnyH_done (by kernel_rfl) ?_ _
      refine Only.here ?_
      have HA9 := Lib.hid (show VAt base p A w s y gy (B ++ C) w9 by rw [HCD.out, ← List.append_assoc, ← List.append_assoc, ← List.append_assoc]; exact HA9.out)
      have y0 := HA9.out.y.cells.1; have y1 := HA9.out.y.cells.2.1; have y2 := HA9.out.y.cells.2.2.1; have y3 := HA9.out.y.cells.2.2.2
      have r0 := HA9.out.r.cells.1; have r1 := HA9.out.r.cells.2.1; have r2 := HA9.out.r.cells.2.2.1; have r3 := HA9.out.r.cells.2.2.2
      have f0 := HA9.out.r.free.1; have f1 := HA9.out.r.free.2.1; have f2 := HA9.out.r.free.2.2.1; have f3 := HA9.out.r.free.2.2.2
      go_wp2_with fail
      refine bodyPost_ret (v := .agg #[.int .i64 y.n, .int .u64 y.v, .int .i64 y.l, .int .i64 y.t]) (by simp [results, go_sem, r0, r1, r2, r3]) rfl ⟨rfl, ?_⟩
      obtain ⟨A2, c2, h1, h2, h3⟩ := HA9.out.over HPL.out (grown_four _ (w.heap.size + 1) 0 1 2 3 (.int .i64 y.n) (.int .u64 y.v) (.int .i64 y.l) (.int .i64 y.t)) rfl
      first | exact ⟨A2, c2, h1, h2, h3⟩ | exact ⟨A2, ⟨c2, h1⟩, h2, h3⟩
end Go.Proofs.YtfgcgjogaaofdaaGreatDoor
