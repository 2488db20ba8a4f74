/-
  What Put and Cost of package stamp come to.
-/
import Derived.Test.YtfgcgjogaaofdaaGreatDoorStA
namespace Go.Proofs.YtfgcgjogaaofdaaGreatDoor
open Go.RowKit

theorem PutSet.not_new {W : World} {base p cap : Nat} {A : Option Addr} {B : List Bool} (h : WrAt W base p A cap B) {k : Nat} (hk : W.heap.size ≤ k) : ¬ PutSet p A k := by
  rintro (e | h2)
  · have := h.lt; omega
  · cases A with
    | none => cases h2
    | some a =>
      obtain ⟨_, h3, _⟩ := row_block h.own (g := a.block) rfl
      have h4 : a.block = k := by simpa using h2
      omega
/-- within a Put: the state that came in, the result's cells, and the writer -/
structure StAt (base p : Nat) (A : Option Addr) (B : List Bool) (w : World) (n x d : Int) (W : World) : Prop where
  s : W.heap[w.heap.size]? = some (.cells #[.int .i64 n, .int .i64 x, .int .i64 d] 102 (0, 0))
  r : W.heap[w.heap.size + 1]? = some (.cells #[.int .i64 0, .int .i64 0, .int .i64 0] 102 (0, 0))
  row : ∃ A2 cap2, NewRow w A A2 ∧ WrAt W base p A2 cap2 B
  far : Far w W (PutSet p A)
  size : w.heap.size + 2 ≤ W.heap.size
theorem StAt.start {base p cap : Nat} {A : Option Addr} {B : List Bool} {w : World} (h : WrAt w base p A cap B) (n x d : Int) : StAt base p A B w n x d ((w.alloc (.cells #[.int .i64 n, .int .i64 x, .int .i64 d] 102)).alloc (.cells #[.int .i64 0, .int .i64 0, .int .i64 0] 102)) := by
  have hb : Below w.heap.size w ((w.alloc (.cells #[.int .i64 n, .int .i64 x, .int .i64 d] 102)).alloc (.cells #[.int .i64 0, .int .i64 0, .int .i64 0] 102)) := ((Below.refl _ _).alloc (Nat.le_refl _) _).alloc (by simp) _
  refine ⟨?_, RowIs.two _ _ _, ⟨A, cap, .inl rfl, h.later hb⟩, ⟨hb.os, hb.tape, hb.output, hb.size, fun k hk _ => hb.block k hk⟩, by simp⟩
  exact (RowIs.under _ _ _ _ (by simp)).mpr (RowIs.one _ _)
theorem StAt.below {base p : Nat} {A : Option Addr} {B : List Bool} {w W W2 : World} {n x d : Int} (h : StAt base p A B w n x d W) (hb : Below W.heap.size W W2) : StAt base p A B w n x d W2 := by
  have hs := h.size
  obtain ⟨A2, cap2, hN, hw⟩ := h.row
  exact ⟨(hb.block _ (by omega)).trans h.s, (hb.block _ (by omega)).trans h.r, ⟨A2, cap2, hN, hw.later hb⟩,
    h.far.trans ⟨hb.os, hb.tape, hb.output, hb.size, fun k hk _ => hb.block k hk⟩ (S2 := fun _ => False) (fun k e => e.elim), Nat.le_trans hs hb.size⟩
theorem grown_three (W : World) (b i j k : Nat) (x y z : Value) : W.grownBy (((W.setCell ⟨b, i, none⟩ x).setCell ⟨b, j, none⟩ y).setCell ⟨b, k, none⟩ z) (some b) :=
  ⟨rfl, rfl, rfl, Nat.le_trans (KeepsWalks.setCell W _ x).size (Nat.le_trans (KeepsWalks.setCell _ _ y).size (KeepsWalks.setCell _ _ z).size), fun q _ hne => by
    have hq : q ≠ b := fun e => hne (by rw [e])
    rw [Below.heap_setCell _ _ _ _ hq, Below.heap_setCell _ _ _ _ hq, Below.heap_setCell _ _ _ _ hq]⟩
theorem row_not {W : World} {base p cap k : Nat} {A : Option Addr} {B : List Bool} {cs : Array Value} {t : TypeId} (h : WrAt W base p A cap B) (hk : W.heap[k]? = some (.cells cs t (0, 0))) (ht : 5 ≠ t) (hp : k ≠ p) : ¬ PutSet p A k := by
  rintro (e | h2)
  · exact hp e
  · rcases h.row_at with rfl | ⟨g, rfl, _⟩
    · cases h2
    · have : g = k := by simpa using h2
      exact own_ne h.own hk ht this
theorem StAt.put {base p cap cap2 : Nat} {A A1 A2 : Option Addr} {B B2 : List Bool} {w W W2 : World} {n x d : Int} (h : StAt base p A B w n x d W) (hp : p < w.heap.size)
    (hN1 : NewRow w A A1) (hw1 : WrAt W base p A1 cap B) (hw : WrAt W2 base p A2 cap2 B2) (hN : NewRow W A1 A2) (hF : Far W W2 (PutSet p A1)) : StAt base p A B2 w n x d W2 := by
  have hs := h.size
  refine ⟨(hF.same _ (by omega) (row_not hw1 h.s (by decide) (by omega))).trans h.s, (hF.same _ (by omega) (row_not hw1 h.r (by decide) (by omega))).trans h.r, ⟨A2, cap2, ?_, hw⟩, ?_, Nat.le_trans hs hF.size⟩
  · rcases hN with rfl | ⟨g, rfl, hg⟩
    · exact hN1
    · exact .inr ⟨g, rfl, by omega⟩
  · refine h.far.trans hF ?_
    rintro k (e | e)
    · exact .inl (.inl e)
    · rcases hw1.row_at with rfl | ⟨g, rfl, _⟩
      · cases e
      · have : g = k := by simpa using e
        subst this
        exact hN1.in rfl
theorem StAt.over {base p : Nat} {A : Option Addr} {B : List Bool} {w W W2 : World} {n x d : Int} (h : StAt base p A B w n x d W) (hp : p < w.heap.size) {row : Option Nat} (hg : W.grownBy W2 row) (hr : row = some (w.heap.size + 1)) :
    ∃ A2 cap2, WrAt W2 base p A2 cap2 B ∧ NewRow w A A2 ∧ Far w W2 (PutSet p A) := by
  have hs := h.size
  obtain ⟨A2, cap2, hN, hw⟩ := h.row
  refine ⟨A2, cap2, RowAt.keep hw (hg.block p (by omega) (by rw [hr]; simp; omega)) (fun g e => ?_), hN, h.far.step hg (fun r e => .inr (by rw [hr] at e; cases e; omega))⟩
  have hne : g ≠ w.heap.size + 1 := by subst e; exact own_ne hw.own h.r (by decide)
  have hlt : g < W.heap.size := by subst e; exact (row_block hw.own rfl).2.1
  exact hg.block g hlt (by rw [hr]; simp; omega)
theorem StAt.cells {base p : Nat} {A : Option Addr} {B : List Bool} {w W : World} {n x d : Int} (h : StAt base p A B w n x d W) :
    W.cell? ⟨w.heap.size, 0, none⟩ = some (.int .i64 n) ∧ W.cell? ⟨w.heap.size, 1, none⟩ = some (.int .i64 x) ∧ W.cell? ⟨w.heap.size, 2, none⟩ = some (.int .i64 d) :=
  ⟨cell_of_row _ _ _ _ _ _ h.s, cell_of_row _ _ _ _ _ _ h.s, cell_of_row _ _ _ _ _ _ h.s⟩
theorem StAt.res {base p : Nat} {A : Option Addr} {B : List Bool} {w W : World} {n x d : Int} (h : StAt base p A B w n x d W) :
    (W.cell? ⟨w.heap.size + 1, 0, none⟩ = some (.int .i64 0) ∧ W.cell? ⟨w.heap.size + 1, 1, none⟩ = some (.int .i64 0) ∧ W.cell? ⟨w.heap.size + 1, 2, none⟩ = some (.int .i64 0)) ∧
    W.frozen? ⟨w.heap.size + 1, 0, none⟩ = false ∧ W.frozen? ⟨w.heap.size + 1, 1, none⟩ = false ∧ W.frozen? ⟨w.heap.size + 1, 2, none⟩ = false :=
  ⟨⟨cell_of_row _ _ _ _ _ _ h.r, cell_of_row _ _ _ _ _ _ h.r, cell_of_row _ _ _ _ _ _ h.r⟩, frozen_of_row _ _ _ _ _ h.r, frozen_of_row _ _ _ _ _ h.r, frozen_of_row _ _ _ _ _ h.r⟩
theorem WrAt.wider {w W : World} {base p cap : Nat} {A : Option Addr} {B : List Bool} (h : WrAt w base p A cap B) (hb : Below w.heap.size w W) : WrAt W base p A cap B := h.later hb
set_option maxRecDepth 100000 in
set_option maxHeartbeats 1000000 in
theorem stPut_any (base p : Nat) (A : Option Addr) (cap : Nat) (B : List Bool) (hB : B.length ≤ 549755813888) (s : St.S) (t : Int) (w : World) (hT : ClsOk w) (hw : WrAt w base p A cap B) (hbase : base ≤ w.heap.size) :
    Calls Tryz.prog 71 #[.pointer (some ⟨p, 0, none⟩), s.val, .int .i64 t] w fun e w' => e = .returned (s.next t).val ∧
      ∃ A2 cap2, WrAt w' base p A2 cap2 (B ++ s.code t) ∧ NewRow w A A2 ∧ Far w w' (PutSet p A) := by
  have Hnext := fun W => next_any s t W
  have Hchange := fun W => change_any s t W
  have hq0 := fun k => PutSet.not_new hw (k := k)
  have hcd : s.code t = if s.n = 0 then Bit.of (St.uw t).toNat 64 else St.code (s.change t) := rfl
  generalize s.next t = s2 at *
  generalize s.code t = C at *
  generalize s.change t = c at *
  obtain ⟨n2, x2, d2⟩ := s2
  obtain ⟨n, x, d⟩ := s
  have HT := Lib.hid hT; have HW := Lib.hid hw; clear hT hw
  have hur := St.uw_range t
  obtain ⟨u, hu⟩ : ∃ u : Nat, St.uw t = u := ⟨(St.uw t).toNat, by omega⟩
  have HU : Hid (u < 18446744073709551616) := Lib.hid (by omega)
  rw [hu] at hcd
  have hu2 : IntKind.u64.wrap t = (u : Int) := hu
  clear hur hu
  simp only [St.S.val, Int.toNat_natCast] at *
  by_cases h : n = 0
  · subst h
    simp only [if_pos] at hcd
    subst hcd
    go_enter Tryz.func71, Tryz.ntmps71
    go_wp2_with fail
    refine (Put_any base p A cap B (by omega) u HU 64 _ (HW.out.later (((Below.refl _ _).alloc (Nat.le_refl _) _).alloc (by simp) _)) (by simp; omega)).mono ?_
    rintro e w2 ⟨rfl, A2, cap2, hw2, hN, hF⟩
    have hs : StAt base p A (B ++ Bit.of u (Bit.wd 64)) w 0 x d w2 := (StAt.start HW.out 0 x d).put HW.out.lt (.inl rfl) (HW.out.later (((Below.refl _ _).alloc (Nat.le_refl _) _).alloc (by simp) _)) hw2 hN hF
    clear hw2 hN hF
    have HS := Lib.hid hs
    obtain ⟨s0, s1, s2⟩ := hs.cells
    clear hs
    go_wp2_with fail
    refine (Hnext _).mono ?_; rintro e w3 ⟨rfl, hb3⟩
    have hs := HS.out.below hb3; clear hb3
    have HS3 := Lib.hid hs
    obtain ⟨t0, t1, t2⟩ := hs.cells; obtain ⟨⟨r0, r1, r2⟩, f0, f1, f2⟩ := hs.res
    clear hs
    go_wp2_with fail
    refine bodyPost_ret (v := .agg #[.int .i64 n2, .int .i64 x2, .int .i64 d2]) (by simp [results, go_sem, r0, r1, r2]) rfl ⟨rfl, ?_⟩
    exact HS3.out.over HW.out.lt (grown_three _ _ _ _ _ _ _ _) rfl
  · have h2 : (n == 0) = false := by simp [h]
    rw [if_neg h] at hcd
    have hcl := fun W hW => classOf_any c W hW
    have hk5 := St.cls_lt c
    unfold St.code at hcd
    generalize St.cls c = k at *
    have Hcl := Lib.hid hcl; clear hcl
    go_enter Tryz.func71, Tryz.ntmps71
    go_wp2_with fail
    refine (Hchange _).mono ?_; rintro e w1 ⟨rfl, hb1⟩
    have HS1 := Lib.hid ((StAt.start HW.out n x d).below hb1)
    have HT1 : Hid (ClsOk w1) := Lib.hid ((HT.out.later (((Below.refl _ _).alloc (Nat.le_refl _) _).alloc (by simp) _)).later hb1)
    have hg1 := HS1.out.size
    clear hb1
    go_wp2_with fail
    refine (Hcl.out _ HT1.out).mono ?_; rintro e wx ⟨rfl, rfl⟩
    have c0 := HT1.out k hk5 0 (by omega)
    have c1 := HT1.out k hk5 1 (by omega)
    have c2 := HT1.out k hk5 2 (by omega)
    have c3 := HT1.out k hk5 3 (by omega)
    have c4 := HT1.out k hk5 4 (by omega)
    have c5 := HT1.out k hk5 5 (by omega)
    simp only [St.cell, List.getD_cons_zero, List.getD_cons_succ, Nat.add_zero] at c0 c1 c2 c3 c4 c5
    have hmk : St.mark k < 16 := by unfold St.mark; split <;> omega
    have hmw : Bit.wd ((St.marks k : Nat) : Int) = St.marks k := by have : St.marks k ≤ 4 := (by unfold St.marks; split <;> omega); unfold Bit.wd; omega
    have hzw : Bit.wd ((St.size k : Nat) : Int) = St.size k := by have : St.size k ≤ 64 := (by unfold St.size; split <;> omega); unfold Bit.wd; omega
    have hm4 : St.marks k ≤ 4 := by unfold St.marks; split <;> omega
    have hvr := St.uw_range (St.sw (c + St.plus k))
    obtain ⟨v, hv⟩ : ∃ v : Nat, St.uw (St.sw (c + St.plus k)) = v := ⟨_, (Int.toNat_of_nonneg hvr.1).symm⟩
    have HV : Hid (v < 18446744073709551616) := Lib.hid (by omega)
    have HVE : Hid (IntKind.u64.wrap (wrap64 (c + St.plus k)) = (v : Int)) := Lib.hid hv
    rw [hv, Int.toNat_natCast] at hcd
    clear hvr hv
    generalize St.mark k = mk at *
    generalize St.marks k = ms at *
    generalize St.size k = sz at *
    generalize St.plus k = pl at *
    generalize St.low k = lo at *
    generalize St.high k = hi at *
    go_wp2_with fail
    obtain ⟨A1, cap1, hN1, hw1⟩ := HS1.out.row
    have hs2 : StAt base p A B w n x d (wx.alloc (.cells #[.int .i64 lo, .int .i64 hi, .int .i64 pl, .int .u64 mk, .int .i64 ms, .int .i64 sz] 122)) := HS1.out.below ((Below.refl _ _).alloc (Nat.le_refl _) _)
    have hq2 : (wx.alloc (.cells #[.int .i64 lo, .int .i64 hi, .int .i64 pl, .int .u64 mk, .int .i64 ms, .int .i64 sz] 122)).heap[wx.heap.size]? = some (.cells #[.int .i64 lo, .int .i64 hi, .int .i64 pl, .int .u64 mk, .int .i64 ms, .int .i64 sz] 122 (0, 0)) := RowIs.one _ _
    have hw2 : WrAt (wx.alloc (.cells #[.int .i64 lo, .int .i64 hi, .int .i64 pl, .int .u64 mk, .int .i64 ms, .int .i64 sz] 122)) base p A1 cap1 B := hw1.later ((Below.refl _ _).alloc (Nat.le_refl _) _)
    have hqs : wx.heap.size < (wx.alloc (.cells #[.int .i64 lo, .int .i64 hi, .int .i64 pl, .int .u64 mk, .int .i64 ms, .int .i64 sz] 122)).heap.size := by simp
    generalize wx.alloc (.cells #[.int .i64 lo, .int .i64 hi, .int .i64 pl, .int .u64 mk, .int .i64 ms, .int .i64 sz] 122) = w2 at *
    have HS2 := Lib.hid hs2; clear hs2
    have hpl := HW.out.lt
    refine (Put_any base p A1 cap1 B (by omega) mk (Lib.hid (by omega)) (ms : Int) w2 hw2 (by have := HS2.out.size; omega)).mono ?_
    rintro e w3 ⟨rfl, A3, cap3, hw3, hN3, hF3⟩
    rw [hmw] at hw3
    have hs3 := HS2.out.put HW.out.lt hN1 hw2 hw3 hN3 hF3
    have hN3' := hN1.step hN3 (by have := HS2.out.size; omega)
    have hq3 := (hF3.same _ hqs (row_not hw2 hq2 (by decide) (by omega))).trans hq2
    have g2 := cell_of_row _ _ 2 _ _ _ hq3
    have g5 := cell_of_row _ _ 5 _ _ _ hq3
    simp at g2 g5
    have HS3 := Lib.hid hs3; have HW3 := Lib.hid hw3
    clear hw3 hs3 hN3 hF3 hq2 hw2 hqs hw1 HS1 HS2
    go_wp2_with fail
    rw [HVE.out]
    refine (Put_any base p A3 cap3 (B ++ Bit.of mk ms) (by rw [List.length_append, Bit.of_length]; omega) v HV (sz : Int) w3 HW3.out (by have := HS3.out.size; omega)).mono ?_
    rintro e w4 ⟨rfl, A4, cap4, hw4, hN4, hF4⟩
    rw [hzw, List.append_assoc, ← hcd] at hw4
    have hs4 := HS3.out.put HW.out.lt hN3' HW3.out hw4 hN4 hF4
    have HS4 := Lib.hid hs4
    obtain ⟨s0, s1, s2⟩ := hs4.cells
    clear hs4 hw4 hN4 hF4
    go_wp2_with fail
    refine (Hnext _).mono ?_; rintro e w5 ⟨rfl, hb5⟩
    have hs := HS4.out.below hb5; clear hb5
    have HS5 := Lib.hid hs
    obtain ⟨t0, t1, t2⟩ := hs.cells; obtain ⟨⟨r0, r1, r2⟩, f0, f1, f2⟩ := hs.res
    clear hs
    go_wp2_with fail
    refine bodyPost_ret (v := .agg #[.int .i64 n2, .int .i64 x2, .int .i64 d2]) (by simp [results, go_sem, r0, r1, r2]) rfl ⟨rfl, ?_⟩
    exact HS5.out.over HW.out.lt (grown_three _ _ _ _ _ _ _ _) rfl
end Go.Proofs.YtfgcgjogaaofdaaGreatDoor
