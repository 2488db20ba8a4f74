/-
  What Valid, wayOf, inWindow, next of package value come to.
-/
import Derived.Test.YtfgcgjogaaofdaaGreatDoorVaM
import Derived.Test.YtfgcgjogaaofdaaGreatDoorBitL
import Derived.BigQuiet
namespace Go.Proofs.YtfgcgjogaaofdaaGreatDoor
open Go.RowKit

theorem TabOk.later {w W : World} (h : TabOk w) (hb : Below w.heap.size w W) : TabOk W := fun j hj => by
  have h0 := h j hj
  exact (hb.cell (block_lt_of_cell h0)).trans h0
theorem below_drewN {w W : World} (h : Below w.heap.size w W) (n : Nat) : Below w.heap.size w (W.drewN n) := h.grown (DrewOf.grown ⟨n, rfl⟩ none) h.size (fun r e => by cases e)
def VStAt (W : World) (g : Nat) (s : Va.S) : Prop := W.heap[g]? = some (.cells #[.int .i64 s.n, .int .u64 s.v, .int .i64 s.l, .int .i64 s.t] 104 (0, 0))
theorem VStAt.lt {W : World} {g : Nat} {s : Va.S} (h : VStAt W g s) : g < W.heap.size := (Array.getElem?_eq_some_iff.1 h).1
theorem VStAt.later {W W2 : World} {g : Nat} {s : Va.S} (h : VStAt W g s) (hb : Below W.heap.size W W2) : VStAt W2 g s := (hb.block g h.lt).trans h
theorem VStAt.cells {W : World} {g : Nat} {s : Va.S} (h : VStAt W g s) : W.cell? ⟨g, 0, none⟩ = some (.int .i64 s.n) ∧ W.cell? ⟨g, 1, none⟩ = some (.int .u64 s.v) ∧ W.cell? ⟨g, 2, none⟩ = some (.int .i64 s.l) ∧ W.cell? ⟨g, 3, none⟩ = some (.int .i64 s.t) :=
  ⟨cell_of_row _ _ 0 _ _ _ h, cell_of_row _ _ 1 _ _ _ h, cell_of_row _ _ 2 _ _ _ h, cell_of_row _ _ 3 _ _ _ h⟩
theorem VStAt.free {W : World} {g : Nat} {s : Va.S} (h : VStAt W g s) : W.frozen? ⟨g, 0, none⟩ = false ∧ W.frozen? ⟨g, 1, none⟩ = false ∧ W.frozen? ⟨g, 2, none⟩ = false ∧ W.frozen? ⟨g, 3, none⟩ = false :=
  ⟨frozen_of_row _ _ _ _ _ h, frozen_of_row _ _ _ _ _ h, frozen_of_row _ _ _ _ _ h, frozen_of_row _ _ _ _ _ h⟩
theorem ret_bool {a b : Bool} (h : a = b) : Ending.returned (.bool a) = .returned (.bool b) := by rw [h]
theorem grown_four (W : World) (b i j k l : Nat) (x y z u : Value) : W.grownBy ((((W.setCell ⟨b, i, none⟩ x).setCell ⟨b, j, none⟩ y).setCell ⟨b, k, none⟩ z).setCell ⟨b, l, none⟩ u) (some b) :=
  ⟨rfl, rfl, rfl, Nat.le_trans (KeepsWalks.setCell W _ x).size (Nat.le_trans (KeepsWalks.setCell _ _ y).size (Nat.le_trans (KeepsWalks.setCell _ _ z).size (KeepsWalks.setCell _ _ u).size)), fun q _ hne => by
    have hq : q ≠ b := fun e => hne (by rw [e])
    rw [Below.heap_setCell _ _ _ _ hq, Below.heap_setCell _ _ _ _ hq, Below.heap_setCell _ _ _ _ hq, Below.heap_setCell _ _ _ _ hq]⟩
theorem grown_two (W : World) (b i j : Nat) (x y : Value) : W.grownBy ((W.setCell ⟨b, i, none⟩ x).setCell ⟨b, j, none⟩ y) (some b) :=
  ⟨rfl, rfl, rfl, Nat.le_trans (KeepsWalks.setCell W _ x).size (KeepsWalks.setCell _ _ y).size, fun q _ hne => by
    have hq : q ≠ b := fun e => hne (by rw [e])
    rw [Below.heap_setCell _ _ _ _ hq, Below.heap_setCell _ _ _ _ hq]⟩
theorem VStAt.window {W : World} {g : Nat} {s : Va.S} (h : VStAt W g s) (n v l t : Nat) : VStAt ((((W.setCell ⟨g, 2, none⟩ (.int .i64 l)).setCell ⟨g, 3, none⟩ (.int .i64 t)).setCell ⟨g, 0, none⟩ (.int .i64 ((n : Int) + 1))).setCell ⟨g, 1, none⟩ (.int .u64 v)) g ⟨n + 1, v, l, t⟩ := by
  unfold VStAt at *
  simp [World.setCell, Array.getElem?_modify, h]
theorem VStAt.more {W : World} {g : Nat} {s : Va.S} (h : VStAt W g s) (v : Nat) : VStAt ((W.setCell ⟨g, 0, none⟩ (.int .i64 ((s.n : Int) + 1))).setCell ⟨g, 1, none⟩ (.int .u64 v)) g ⟨s.n + 1, v, s.l, s.t⟩ := by
  unfold VStAt at *
  simp [World.setCell, Array.getElem?_modify, h]
theorem VStAt.set {W : World} {g : Nat} {s : Va.S} (h : VStAt W g s) (x : Va.S) : VStAt ((((W.setCell ⟨g, 0, none⟩ (.int .i64 x.n)).setCell ⟨g, 1, none⟩ (.int .u64 x.v)).setCell ⟨g, 2, none⟩ (.int .i64 x.l)).setCell ⟨g, 3, none⟩ (.int .i64 x.t)) g x := by
  unfold VStAt at *
  simp [World.setCell, Array.getElem?_modify, h]
theorem VStAt.grown {W W2 : World} {g : Nat} {s : Va.S} {row : Option Nat} (h : VStAt W g s) (hg : W.grownBy W2 row) (hne : some g ≠ row) : VStAt W2 g s := (hg.block g h.lt hne).trans h
def Va.validB (n l t : Int) : Bool := decide (0 ≤ n ∧ 0 ≤ l ∧ 0 ≤ t ∧ ((l = 64 ∧ t = 0) ∨ (l < 64 ∧ t < 64 ∧ l + t < 64)))
set_option maxRecDepth 100000 in
set_option maxHeartbeats 1000000 in
theorem Valid_any (n v l t : Int) (w : World) :
    Calls Tryz.prog 85 #[.agg #[.int .i64 n, .int .u64 v, .int .i64 l, .int .i64 t]] w fun e w' => e = .returned (.bool (Va.validB n l t)) ∧ Below w.heap.size w w' := by
  have HB : Hid (Below w.heap.size w (w.alloc (.cells #[.int .i64 n, .int .u64 v, .int .i64 l, .int .i64 t] 104))) := Lib.hid ((Below.refl _ _).alloc (Nat.le_refl _) _)
  by_cases h0 : n < 0
  · go_enter Tryz.func85, Tryz.ntmps85
    go_wp2_with fail
    go_ret
    exact ⟨ret_bool (by unfold Va.validB; symm; exact decide_eq_false (by omega)), HB.out⟩
  by_cases h1 : l < 0
  · go_enter Tryz.func85, Tryz.ntmps85
    go_wp2_with fail
    go_ret
    exact ⟨ret_bool (by unfold Va.validB; symm; exact decide_eq_false (by omega)), HB.out⟩
  by_cases h2 : t < 0
  · go_enter Tryz.func85, Tryz.ntmps85
    go_wp2_with fail
    go_ret
    exact ⟨ret_bool (by unfold Va.validB; symm; exact decide_eq_false (by omega)), HB.out⟩
  by_cases h3 : l = 64
  · have e3 : (l == 64) = true := by simp [h3]
    have HN : Hid (Va.validB n l t = (t == 0)) := Lib.hid (by
      unfold Va.validB
      by_cases ht : t = 0
      · rw [decide_eq_true (by omega)]; simp [ht]
      · rw [decide_eq_false (by omega)]; simp [ht])
    have H3 := Lib.hid h3; clear h3
    go_enter Tryz.func85, Tryz.ntmps85
    go_wp2_with fail
    go_ret
    exact ⟨ret_bool HN.out.symm, HB.out⟩
  have e3 : (l == 64) = false := by simp [h3]
  by_cases h4 : l < 64
  · by_cases h5 : t < 64
    · have hw : wrap64 (l + t) = l + t := IntWalk.wrap64_in _ (by omega)
      have HN : Hid (Va.validB n l t = decide (l + t < 64)) := Lib.hid (by
        unfold Va.validB
        by_cases ht : l + t < 64
        · rw [decide_eq_true (by omega), decide_eq_true ht]
        · rw [decide_eq_false (by omega), decide_eq_false ht])
      have HW := Lib.hid hw
      go_enter Tryz.func85, Tryz.ntmps85
      go_wp2_with fail
      go_ret
      exact ⟨ret_bool (by rw [HN.out]), HB.out⟩
    · go_enter Tryz.func85, Tryz.ntmps85
      go_wp2_with fail
      go_ret
      exact ⟨ret_bool (by unfold Va.validB; symm; exact decide_eq_false (by omega)), HB.out⟩
  · go_enter Tryz.func85, Tryz.ntmps85
    go_wp2_with fail
    go_ret
    exact ⟨ret_bool (by unfold Va.validB; symm; exact decide_eq_false (by omega)), HB.out⟩
theorem Va.S.valid {s : Va.S} (h : s.ok) : Va.validB s.n s.l s.t = true := by
  unfold Va.validB
  have := h.w
  exact decide_eq_true (by omega)
set_option maxRecDepth 100000 in
set_option maxHeartbeats 1000000 in
theorem inWindow_any (s : Va.S) (h : s.ok) (w : World) :
    Calls Tryz.prog 88 #[s.val] w fun e w' => e = .returned (.int .i64 (s.win : Nat)) ∧ Below w.heap.size w w' := by
  have hw := h.w
  obtain ⟨n, v, l, t⟩ := s
  have HR : Hid (64 - (l : Int) - (t : Int) = (((⟨n, v, l, t⟩ : Va.S).win : Nat) : Int)) := Lib.hid (by
    show _ = ((64 - l - t : Nat) : Int)
    simp only at hw
    omega)
  simp only at hw
  have hl : l ≤ 64 := by omega
  have ht : t ≤ 64 := by omega
  clear h hw
  unfold Va.S.val
  dsimp only
  go_enter Tryz.func88, Tryz.ntmps88
  go_wp2_with fail
  go_ret
  exact ⟨ret_int HR.out, (Below.refl _ _).alloc (Nat.le_refl _) _⟩
set_option maxRecDepth 100000 in
set_option maxHeartbeats 1000000 in
theorem wayOf_any (s : Va.S) (_hok : s.ok) (x : Nat) (hx : x < 18446744073709551616) (w : World) (hT : TabOk w) :
    Calls Tryz.prog 87 #[s.val, .int .u64 x] w fun e w' => e = .returned (.int .i64 (Va.way s x : Nat)) ∧ Below w.heap.size w w' := by
  have hal : Below w.heap.size w (w.alloc (.cells #[.int .i64 s.n, .int .u64 s.v, .int .i64 s.l, .int .i64 s.t] 104)) := (Below.refl _ _).alloc (Nat.le_refl _) _
  have HB := Lib.hid hal
  have hT1 := hT.later hal
  have hlead : ∀ W, Calls Tryz.prog 97 #[.int .u64 x] W fun e w' => e = .returned (.int .i64 (Va.lead x : Nat)) ∧ w' = W := fun W => by
    refine (Lead_any x hx W).mono ?_
    rintro e w' ⟨rfl, rfl⟩
    refine ⟨ret_int ?_, rfl⟩
    have := Lib.bitLen_le x 64 (by omega) hx
    unfold Va.lead; omega
  have htrail : ∀ m, Calls Tryz.prog 98 #[.int .u64 x] ((w.alloc (.cells #[.int .i64 s.n, .int .u64 s.v, .int .i64 s.l, .int .i64 s.t] 104)).drewN m) fun e w' => e = .returned (.int .i64 (Va.trail x : Nat)) ∧ w' = (w.alloc (.cells #[.int .i64 s.n, .int .u64 s.v, .int .i64 s.l, .int .i64 s.t] 104)).drewN m := fun m => Trail_any x hx _ hT1
  have HL := Lib.hid hlead; have HT := Lib.hid htrail; clear hlead htrail hT hT1 hal hx
  have hw0 := Va.way_zero (s := s) (x := x)
  have hw1 := Va.way_one (s := s) (x := x)
  have hw2 := Va.way_two (s := s) (x := x)
  have hwl := Va.way_lt s x
  unfold Va.S.val
  by_cases hn : s.n = 0
  · have e0 : ((s.n : Int) == 0) = true := by simp [hn]
    have H0 := Lib.hid (hw0.2 hn)
    clear hw0 hw1 hw2 hn hwl
    go_enter Tryz.func87, Tryz.ntmps87
    go_wp2_with fail
    go_ret
    exact ⟨ret_int (by rw [H0.out]; rfl), HB.out⟩
  have e0 : ((s.n : Int) == 0) = false := by simp [hn]
  by_cases hx0 : x = 0
  · have e1 : ((x : Int) == 0) = true := by simp [hx0]
    have H0 := Lib.hid (hw1.2 ⟨hn, hx0⟩)
    clear hw0 hw1 hw2 hn hwl hx0
    go_enter Tryz.func87, Tryz.ntmps87
    go_wp2_with fail
    go_ret
    exact ⟨ret_int (by rw [H0.out]; rfl), HB.out⟩
  have e1 : ((x : Int) == 0) = false := by simp [hx0]
  by_cases h64 : s.l = 64
  · have e2 : ((s.l : Int) != 64) = false := by simp [h64]
    have H3 : Hid (Va.way s x = 3) := Lib.hid (by
      have a : Va.way s x ≠ 0 := fun h => hn (hw0.1 h)
      have b : Va.way s x ≠ 1 := fun h => hx0 (hw1.1 h).2
      have c : Va.way s x ≠ 2 := fun h => (hw2.1 h).2.2.1 h64
      omega)
    clear hw0 hw1 hw2 hn hwl hx0 h64
    go_enter Tryz.func87, Tryz.ntmps87
    go_wp2_with fail
    go_quiet (fail)
    go_wp2_with fail
    go_ret
    exact ⟨ret_int (by rw [H3.out]; rfl), below_drewN HB.out _⟩
  have e2 : ((s.l : Int) != 64) = true := by simp; omega
  by_cases hl : s.l ≤ Va.lead x
  · have e3 : decide (s.l ≤ Va.lead x) = true := decide_eq_true hl
    by_cases ht : s.t ≤ Va.trail x
    · have e4 : decide (s.t ≤ Va.trail x) = true := decide_eq_true ht
      have H2 := Lib.hid (hw2.2 ⟨hn, hx0, h64, hl, ht⟩)
      clear hw0 hw1 hw2 hn hwl hx0 h64 hl ht
      go_enter Tryz.func87, Tryz.ntmps87
      go_wp2_with fail
      go_quiet (first | refine Calls.quiet_of_same (HL.out _) | refine Calls.quiet_of_same (HT.out _))
      go_wp2_with fail
      go_ret
      exact ⟨ret_int (by rw [H2.out]; rfl), below_drewN HB.out _⟩
    · have e4 : decide (s.t ≤ Va.trail x) = false := decide_eq_false ht
      have H3 : Hid (Va.way s x = 3) := Lib.hid (by
        have a : Va.way s x ≠ 0 := fun h => hn (hw0.1 h)
        have b : Va.way s x ≠ 1 := fun h => hx0 (hw1.1 h).2
        have c : Va.way s x ≠ 2 := fun h => ht (hw2.1 h).2.2.2.2
        omega)
      clear hw0 hw1 hw2 hn hwl hx0 h64 hl ht
      go_enter Tryz.func87, Tryz.ntmps87
      go_wp2_with fail
      go_quiet (first | refine Calls.quiet_of_same (HL.out _) | refine Calls.quiet_of_same (HT.out _))
      go_wp2_with fail
      go_ret
      exact ⟨ret_int (by rw [H3.out]; rfl), below_drewN HB.out _⟩
  · have e3 : decide (s.l ≤ Va.lead x) = false := decide_eq_false hl
    have H3 : Hid (Va.way s x = 3) := Lib.hid (by
      have a : Va.way s x ≠ 0 := fun h => hn (hw0.1 h)
      have b : Va.way s x ≠ 1 := fun h => hx0 (hw1.1 h).2
      have c : Va.way s x ≠ 2 := fun h => hl (hw2.1 h).2.2.2.1
      omega)
    clear hw0 hw1 hw2 hn hwl hx0 h64 hl
    go_enter Tryz.func87, Tryz.ntmps87
    go_wp2_with fail
    go_quiet (first | refine Calls.quiet_of_same (HL.out _) | refine Calls.quiet_of_same (HT.out _))
    go_wp2_with fail
    go_ret
    exact ⟨ret_int (by rw [H3.out]; rfl), below_drewN HB.out _⟩
set_option maxRecDepth 100000 in
set_option maxHeartbeats 1000000 in
theorem vnext_any (s : Va.S) (hok : s.ok) (hn : s.n < 2199023255552) (v : Nat) (hv : v < 18446744073709551616) (w : World) (hT : TabOk w) :
    Calls Tryz.prog 86 #[s.val, .int .u64 v] w fun e w' => e = .returned (s.next v).val ∧ Below w.heap.size w w' := by
  have hx := Va.xor_lt hv hok.v
  have hlead : ∀ W, Calls Tryz.prog 97 #[.int .u64 ((v ^^^ s.v : Nat) : Int)] W fun e w' => e = .returned (.int .i64 (Va.lead (v ^^^ s.v) : Nat)) ∧ w' = W := fun W => by
    refine (Lead_any _ hx W).mono ?_
    rintro e w' ⟨rfl, rfl⟩
    refine ⟨ret_int ?_, rfl⟩
    have := Lib.bitLen_le (v ^^^ s.v) 64 (by omega) hx
    unfold Va.lead; omega
  have htrail := fun W (h : TabOk W) => Trail_any (v ^^^ s.v) hx W h
  have hway := fun W (h : TabOk W) => wayOf_any s hok (v ^^^ s.v) hx W h
  have exor : bits BinOp.xor .u64 (v : Int) (s.v : Int) = ((v ^^^ s.v : Nat) : Int) := u64_xor_nat _ _ hv hok.v
  have hnx : s.next v = if Va.way s (v ^^^ s.v) = 3 then ⟨s.n + 1, v, Va.lead (v ^^^ s.v), Va.trail (v ^^^ s.v)⟩ else ⟨s.n + 1, v, s.l, s.t⟩ := rfl
  have hwl := Va.way_lt s (v ^^^ s.v)
  have htt : (Lib.ctz 64 (v ^^^ s.v) : Nat) = Va.trail (v ^^^ s.v) := rfl
  rw [htt] at htrail
  have hval : s.val = .agg #[.int .i64 s.n, .int .u64 s.v, .int .i64 s.l, .int .i64 s.t] := rfl
  rw [hval] at hway
  have hb2 : Below w.heap.size w ((w.alloc (.cells #[.int .i64 s.n, .int .u64 s.v, .int .i64 s.l, .int .i64 s.t] 104)).alloc (.cells #[.int .i64 0, .int .u64 0, .int .i64 0, .int .i64 0] 104)) := ((Below.refl _ _).alloc (Nat.le_refl _) _).alloc (by simp) _
  have hS : VStAt ((w.alloc (.cells #[.int .i64 s.n, .int .u64 s.v, .int .i64 s.l, .int .i64 s.t] 104)).alloc (.cells #[.int .i64 0, .int .u64 0, .int .i64 0, .int .i64 0] 104)) w.heap.size s := (RowIs.under _ _ _ _ (by simp)).mpr (RowIs.one _ _)
  have hR : VStAt ((w.alloc (.cells #[.int .i64 s.n, .int .u64 s.v, .int .i64 s.l, .int .i64 s.t] 104)).alloc (.cells #[.int .i64 0, .int .u64 0, .int .i64 0, .int .i64 0] 104)) (w.heap.size + 1) ⟨0, 0, 0, 0⟩ := RowIs.two _ _ _
  generalize v ^^^ s.v = x at *
  generalize Va.lead x = ld at *
  generalize Va.trail x = tr at *
  generalize Va.way s x = k at *
  have HNX := Lib.hid hnx; have HLEAD := Lib.hid hlead; have HTRAIL := Lib.hid htrail; have HWAY := Lib.hid hway; have HT2 : Hid (TabOk _) := Lib.hid (hT.later hb2)
  have HB2 := Lib.hid hb2; have HS := Lib.hid hS; have HR := Lib.hid hR
  clear hnx hlead htrail hway hb2 hT htt
  rw [hval]
  go_enter Tryz.func86, Tryz.ntmps86
  go_wp2_with fail
  have hcall := HWAY.out _ HT2.out
  refine hcall.mono ?_
  clear hcall
  rintro e w3 ⟨rfl, hb3⟩
  have HB3 := Lib.hid (HB2.out.trans (hb3.mono HB2.out.size)); have HS3 := Lib.hid (HS.out.later hb3); have HR3 := Lib.hid (HR.out.later hb3); have HT3 : Hid (TabOk w3) := Lib.hid (HT2.out.later hb3)
  clear hb3 hS hR
  have hz := HR3.out.lt
  by_cases h3 : k = 3
  · subst h3
    obtain ⟨a0, a1, a2, a3⟩ := HS3.out.cells
    obtain ⟨f0, f1, f2, f3⟩ := HS3.out.free
    go_wp2_with fail
    refine (HLEAD.out _).mono ?_; rintro e wx ⟨rfl, rfl⟩
    go_wp2_with fail
    refine (HTRAIL.out _ HT3.out).mono ?_; rintro e wy ⟨rfl, rfl⟩
    go_upto_region 6 with fail
    have hgr := grown_four wy w.heap.size 2 3 0 1 (.int .i64 ld) (.int .i64 tr) (.int .i64 ((s.n : Int) + 1)) (.int .u64 v)
    have HS4 := Lib.hid (HS3.out.window s.n v ld tr)
    have HR4 := Lib.hid (HR3.out.grown hgr (by simp))
    have HB4 := Lib.hid (HB3.out.grown hgr HB3.out.size (fun r e => by cases e; exact Nat.le_refl _))
    generalize (((wy.setCell ⟨w.heap.size, 2, none⟩ (.int .i64 ld)).setCell ⟨w.heap.size, 3, none⟩ (.int .i64 tr)).setCell ⟨w.heap.size, 0, none⟩ (.int .i64 ((s.n : Int) + 1))).setCell ⟨w.heap.size, 1, none⟩ (.int .u64 v) = w4 at *
    clear a0 a1 a2 a3 f0 f1 f2 f3 hgr
    obtain ⟨a0, a1, a2, a3⟩ := HS4.out.cells
    obtain ⟨b0, b1, b2, b3⟩ := HR4.out.cells
    obtain ⟨f0, f1, f2, f3⟩ := HR4.out.free
    go_wp2_with fail
    refine bodyPost_ret (v := .agg #[.int .i64 ((s.n + 1 : Nat) : Int), .int .u64 v, .int .i64 ld, .int .i64 tr]) (by simp [results, go_sem, b0, b1, b2, b3]) rfl ⟨by rw [HNX.out, if_pos (by trivial)]; rfl, ?_⟩
    exact HB4.out.grown (grown_four _ _ _ _ _ _ _ _ _ _) HB4.out.size (fun r e => by cases e; omega)
  · have e3 : ((k : Int) == 3) = false := by simp; omega
    have H3 := Lib.hid h3; clear h3
    obtain ⟨a0, a1, a2, a3⟩ := HS3.out.cells
    obtain ⟨f0, f1, f2, f3⟩ := HS3.out.free
    go_upto_region 6 with fail
    have hgr := grown_two w3 w.heap.size 0 1 (.int .i64 ((s.n : Int) + 1)) (.int .u64 v)
    have HS4 := Lib.hid (HS3.out.more v)
    have HR4 := Lib.hid (HR3.out.grown hgr (by simp))
    have HB4 := Lib.hid (HB3.out.grown hgr HB3.out.size (fun r e => by cases e; exact Nat.le_refl _))
    generalize (w3.setCell ⟨w.heap.size, 0, none⟩ (.int .i64 ((s.n : Int) + 1))).setCell ⟨w.heap.size, 1, none⟩ (.int .u64 v) = w4 at *
    clear a0 a1 a2 a3 f0 f1 f2 f3 hgr
    obtain ⟨a0, a1, a2, a3⟩ := HS4.out.cells
    obtain ⟨b0, b1, b2, b3⟩ := HR4.out.cells
    obtain ⟨f0, f1, f2, f3⟩ := HR4.out.free
    go_wp2_with fail
    refine bodyPost_ret (v := .agg #[.int .i64 ((s.n + 1 : Nat) : Int), .int .u64 v, .int .i64 s.l, .int .i64 s.t]) (by simp [results, go_sem, b0, b1, b2, b3]) rfl ⟨by rw [HNX.out, if_neg H3.out]; rfl, ?_⟩
    exact HB4.out.grown (grown_four _ _ _ _ _ _ _ _ _ _) HB4.out.size (fun r e => by cases e; omega)
end Go.Proofs.YtfgcgjogaaofdaaGreatDoor
