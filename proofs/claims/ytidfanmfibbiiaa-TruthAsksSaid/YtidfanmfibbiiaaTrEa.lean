/-
  What Do comes to.
-/
import Derived.Test.YtidfanmfibbiiaaTrDe
import Derived.Laws.EntriesVeiled
namespace Go.Proofs.Ytidfanmfibbiiaa
open Go.RowKit
/-- a change that lies in a world -/
structure RecIn (w : World) (r : RecAt) : Prop where
  labs : LabRow w r.la r.ln r.f
  lnone : r.la = none → r.ln = 0 ∧ r.lc = 0
  lsize : ∀ i, i < r.ln → (r.f i).1.size ≤ 300 ∧ (r.f i).2.size ≤ 300
  lfew : r.ln ≤ 1000
theorem RecIn.later {w w2 : World} {r : RecAt} (h : RecIn w r) (hb : Below w.heap.size w w2) : RecIn w2 r := ⟨h.labs.later hb, h.lnone, h.lsize, h.lfew⟩
structure RecsIn (w : World) (A : Option Addr) (n c : Nat) (r : Nat → RecAt) : Prop where
  row : Row 5 (cx r) w A n
  none : A = none → n = 0 ∧ c = 0
  few : n ≤ 1000
  each : ∀ i, i < n → RecIn w (r i)
theorem RecsIn.later {w w2 : World} {A : Option Addr} {n c : Nat} {r : Nat → RecAt} (h : RecsIn w A n c r) (hb : Below w.heap.size w w2) : RecsIn w2 A n c r := ⟨h.row.later hb, h.none, h.few, fun i hi => (h.each i hi).later hb⟩
theorem OwnRec.rec_in {W : World} {base : Nat} {x : RecAt} (h : OwnRec W base x) : RecIn W x := by
  obtain ⟨A, c, e, -, -, h1, h2⟩ := own_row h.labo
  cases e
  exact ⟨LabRow.of_row h2, h1, h.lsize, h.lfew⟩
theorem OwnRecs.recs_in {W : World} {base : Nat} {v : Value} {m : Nat} {r : Nat → RecAt} (h : OwnRecs W base v m r) (hm : m ≤ 1000) : ∃ A c, v = .slice A m c ∧ RecsIn W A m c r := by
  obtain ⟨A, c, e, -, -, h1, h2⟩ := own_row h.own
  exact ⟨A, c, e, h2, h1, hm, fun i hi => (h.each i hi).rec_in⟩
theorem Raised.sers_in {W : World} {base base2 : Nat} {v : Value} {m : Nat} {q : Nat → SerAt} (h : Raised W base base2 v m q) (hm : m ≤ 1000) : ∃ A c, v = .slice A m c ∧ Sers W A m c q := by
  obtain ⟨A, c, e, -, -, h1, h2⟩ := own_row h.own
  exact ⟨A, c, e, h2, h1, hm, fun i hi => (h.each i hi).ser_in⟩
theorem Raised.cap {W : World} {base base2 : Nat} {B : Option Addr} {m d : Nat} {q : Nat → SerAt} (h : Raised W base base2 (.slice B m d) m q) : m ≤ d := by
  obtain ⟨A, c, e, h1, -⟩ := own_row h.own
  cases e
  exact h1
theorem run_make_func (fn : Fn) (first cap : Array Value) (w : World) : (Instr.makeFunc fn first cap).run Try.prog w = .ok (.func fn first cap) w := rfl
theorem WorkRows.from_ {W : World} {base base2 : Nat} {v : Value} {n : Nat} {q : Nat → SerAt} (h : WorkRows W base v n q) (hb : base2 ≤ base) : WorkRows W base2 v n q := ⟨own_from h.own hb, h.few, fun i hi => ⟨own_from (h.each i hi).labo hb, own_from (h.each i hi).samo hb, (h.each i hi).lsize, (h.each i hi).lfew, (h.each i hi).sfew⟩, h.apart⟩
/-- what Do leaves -/
theorem OwnRecs.from_ {W : World} {base base2 : Nat} {v : Value} {m : Nat} {r : Nat → RecAt} (h : OwnRecs W base v m r) (hb : base2 ≤ base) : OwnRecs W base2 v m r := ⟨own_from h.own hb, fun i hi => ⟨own_from (h.each i hi).labo hb, (h.each i hi).lsize, (h.each i hi).lfew⟩⟩
def DoEnd (w : World) (r : Tr.Stt (List Lab) × Tr.Ans (List Lab) × List (Tr.Rec (List Lab))) (e : Ending) (w' : World) : Prop :=
  ∃ (A : Option Addr) (n c : Nat) (q : Nat → SerAt) (B : Option Addr) (m d : Nat) (aq : Nat → SerAt) (C : Option Addr) (k f : Nat) (rr : Nat → RecAt),
    e = .returned (.tuple #[.agg #[.slice A n c, .int .i64 r.1.floor], .agg #[.int .i64 r.2.1.err, .int .i64 r.2.1.n, .slice B m d], .slice C k f]) ∧
    Sers w' A n c q ∧ sers q n = r.1.ser ∧ Sers w' B m d aq ∧ sers aq m = r.2.1.ser ∧ RecsIn w' C k f rr ∧ recsL rr k = r.2.2 ∧ Below w.heap.size w w' ∧ WorkRows w' w.heap.size (.slice A n c) n q ∧ OwnRecs w' w.heap.size (.slice C k f) k rr ∧ m ≤ d
theorem run_err {α μ : Type} [DecidableEq α] (p : Tr.Par α μ) (S : Tr.Stt α) (o : Tr.Op α μ) (g : Int) (h : (Tr.run p S o g).2.1.err ≠ 0) : (Tr.run p S o g).2.1.n = 0 ∧ (Tr.run p S o g).2.1.ser = [] ∧ (Tr.run p S o g).2.2 = [] := by
  revert h
  unfold Tr.run
  repeat' split
  all_goals (intro h; first | exact ⟨rfl, rfl, rfl⟩ | exact absurd rfl h)
theorem run_other {α μ : Type} [DecidableEq α] (p : Tr.Par α μ) (S : Tr.Stt α) (o : Tr.Op α μ) (g : Int) (h : o.kind < 0 ∨ 3 < o.kind) : Tr.run p S o g = (S, ⟨1, 0, []⟩, []) := by
  unfold Tr.run
  rw [if_neg (by omega), if_neg (by omega), if_neg (by omega), if_neg (by omega)]
theorem alike_sers {q' q : Nat → SerAt} {n : Nat} (h : ∀ i, i < n → Alike (q' i) (q i)) : sers q' n = sers q n := by
  unfold sers
  refine List.map_congr_left (fun i hi => ?_)
  have hh := h i (List.mem_range.1 hi)
  unfold SerAt.ser SerAt.labs
  rw [hh.f, hh.ln, hh.s, hh.sn, hh.last]
/-- the operation laid into the work -/
theorem work_op {W : World} {b : Nat} {v m : Value} {fl : Int} (o : OpAt) (gen : Int) (h : W.heap[b]? = some (.cells (workCells v fl m op0 0 0 0 (.slice none 0 0) (.slice none 0 0)) 70 (0, 0))) :
    ((((((((W.setCell ⟨b, 3, none⟩ (.int .i64 o.kind)).setCell ⟨b, 4, none⟩ (.slice o.la o.ln o.lc)).setCell ⟨b, 5, none⟩ (.slice o.ma o.mn o.mc)).setCell ⟨b, 6, none⟩ (.int .i64 o.t)).setCell ⟨b, 7, none⟩ (.int .i64 o.hi)).setCell ⟨b, 8, none⟩ (.int .u64 o.v)).setCell ⟨b, 9, none⟩ (.int .i64 o.gen)).setCell ⟨b, 10, none⟩ (.int .i64 gen)).heap[b]? = some (.cells (workCells v fl m (opCells o) gen 0 0 (.slice none 0 0) (.slice none 0 0)) 70 (0, 0)) ∧
    W.grownBy ((((((((W.setCell ⟨b, 3, none⟩ (.int .i64 o.kind)).setCell ⟨b, 4, none⟩ (.slice o.la o.ln o.lc)).setCell ⟨b, 5, none⟩ (.slice o.ma o.mn o.mc)).setCell ⟨b, 6, none⟩ (.int .i64 o.t)).setCell ⟨b, 7, none⟩ (.int .i64 o.hi)).setCell ⟨b, 8, none⟩ (.int .u64 o.v)).setCell ⟨b, 9, none⟩ (.int .i64 o.gen)).setCell ⟨b, 10, none⟩ (.int .i64 gen)) (some b) := by
  refine ⟨?_, ?_⟩
  · have h1 := heap_setCell_same _ b 3 _ _ (.int .i64 o.kind) h
    have h2 := heap_setCell_same _ b 4 _ _ (.slice o.la o.ln o.lc) h1
    have h3 := heap_setCell_same _ b 5 _ _ (.slice o.ma o.mn o.mc) h2
    have h4 := heap_setCell_same _ b 6 _ _ (.int .i64 o.t) h3
    have h5 := heap_setCell_same _ b 7 _ _ (.int .i64 o.hi) h4
    have h6 := heap_setCell_same _ b 8 _ _ (.int .u64 o.v) h5
    have h7 := heap_setCell_same _ b 9 _ _ (.int .i64 o.gen) h6
    have h8 := heap_setCell_same _ b 10 _ _ (.int .i64 gen) h7
    rw [h8]; simp [workCells, opCells, op0]
  · exact grown_trans (grown_trans (grown_trans (grown_trans (grown_trans (grown_trans (grown_trans (grown_setCell _ _ _ _) (grown_setCell _ _ _ _)) (grown_setCell _ _ _ _)) (grown_setCell _ _ _ _)) (grown_setCell _ _ _ _)) (grown_setCell _ _ _ _)) (grown_setCell _ _ _ _)) (grown_setCell _ _ _ _)
theorem res_laid {W8 : World} {r2 r3 : Nat} {x0 x1 y0 y1 y2 : Value} (h2 : W8.heap[r2]? = some (.cells #[x0, x1] 28 (0, 0))) (h3 : W8.heap[r3]? = some (.cells #[y0, y1, y2] 31 (0, 0))) (a b1 c d e : Value) :
    (((((W8.setCell ⟨r2, 0, none⟩ a).setCell ⟨r2, 1, none⟩ b1).setCell ⟨r3, 0, none⟩ c).setCell ⟨r3, 1, none⟩ d).setCell ⟨r3, 2, none⟩ e).heap[r2]? = some (.cells #[a, b1] 28 (0, 0)) ∧
    (((((W8.setCell ⟨r2, 0, none⟩ a).setCell ⟨r2, 1, none⟩ b1).setCell ⟨r3, 0, none⟩ c).setCell ⟨r3, 1, none⟩ d).setCell ⟨r3, 2, none⟩ e).heap[r3]? = some (.cells #[c, d, e] 31 (0, 0)) ∧
    Keeps [28, 31] W8 (((((W8.setCell ⟨r2, 0, none⟩ a).setCell ⟨r2, 1, none⟩ b1).setCell ⟨r3, 0, none⟩ c).setCell ⟨r3, 1, none⟩ d).setCell ⟨r3, 2, none⟩ e) ∧
    ∀ (w : World), w.heap.size ≤ r2 → w.heap.size ≤ r3 → Below w.heap.size w W8 → Below w.heap.size w (((((W8.setCell ⟨r2, 0, none⟩ a).setCell ⟨r2, 1, none⟩ b1).setCell ⟨r3, 0, none⟩ c).setCell ⟨r3, 1, none⟩ d).setCell ⟨r3, 2, none⟩ e) := by
  have hne : r2 ≠ r3 := by
    rintro rfl
    rw [h2] at h3
    cases h3
  have g1 := grown_trans (grown_setCell W8 r2 0 a) (grown_setCell _ r2 1 b1)
  have k2 := heap_setCell_same _ r2 1 _ _ b1 (heap_setCell_same _ r2 0 _ _ a h2)
  have k3 := (g1.block r3 (Array.getElem?_eq_some_iff.1 h3).1 (fun e => by cases e; exact hne rfl)).trans h3
  have g2 := grown_trans (grown_trans (grown_setCell ((W8.setCell ⟨r2, 0, none⟩ a).setCell ⟨r2, 1, none⟩ b1) r3 0 c) (grown_setCell _ r3 1 d)) (grown_setCell _ r3 2 e)
  have m3 := heap_setCell_same _ r3 2 _ _ e (heap_setCell_same _ r3 1 _ _ d (heap_setCell_same _ r3 0 _ _ c k3))
  have m2 := (g2.block r2 (Array.getElem?_eq_some_iff.1 k2).1 (fun e => by cases e; exact hne rfl)).trans k2
  refine ⟨m2.trans rfl, m3.trans rfl, (Keeps.grown h2 (by simp) g1).trans (Keeps.grown k3 (by simp) g2), fun w ha hb hbel => ?_⟩
  have hb1 := hbel.grown g1 hbel.size (fun r e => by cases e; exact ha)
  exact hb1.grown g2 hb1.size (fun r e => by cases e; exact hb)
set_option maxRecDepth 100000 in
set_option maxHeartbeats 4000000 in
theorem Do_any (A : Option Addr) (n c : Nat) (q : Nat → SerAt) (fl gen : Int) (o : OpAt) (w : World) (hA : Sers w A n c q) (hn2 : n ≤ 900) (hs9 : ∀ i, i < n → (q i).sn ≤ 900) (ho : OpSm w o) :
    Calls Try.prog 11 #[.agg #[.slice A n c, .int .i64 fl], .agg #[.int .i64 o.kind, .slice o.la o.ln o.lc, .slice o.ma o.mn o.mc, .int .i64 o.t, .int .i64 o.hi, .int .u64 o.v, .int .i64 o.gen], .int .i64 gen] w (DoEnd w (Tr.run par ⟨sers q n, fl⟩ o.op gen)) := by
  obtain ⟨w1, hw1⟩ : ∃ w1, w1 = w.alloc (.cells #[.slice A n c, .int .i64 fl] 28) := ⟨_, rfl⟩
  obtain ⟨w2, hw2⟩ : ∃ w2, w2 = w1.alloc (.cells #[.int .i64 o.kind, .slice o.la o.ln o.lc, .slice o.ma o.mn o.mc, .int .i64 o.t, .int .i64 o.hi, .int .u64 o.v, .int .i64 o.gen] 39) := ⟨_, rfl⟩
  obtain ⟨w3, hw3⟩ : ∃ w3, w3 = w2.alloc (.cells #[.slice none 0 0, .int .i64 0] 28) := ⟨_, rfl⟩
  obtain ⟨w4, hw4⟩ : ∃ w4, w4 = w3.alloc (.cells #[.int .i64 0, .int .i64 0, .slice none 0 0] 31) := ⟨_, rfl⟩
  have hz1 : w1.heap.size = w.heap.size + 1 := by rw [hw1]; simp
  have hz2 : w2.heap.size = w.heap.size + 2 := by rw [hw2]; simp [hz1]
  have hz3 : w3.heap.size = w.heap.size + 3 := by rw [hw3]; simp [hz2]
  have hz4 : w4.heap.size = w.heap.size + 4 := by rw [hw4]; simp [hz3]
  have hb1 : Below w.heap.size w w1 := by rw [hw1]; exact (Below.refl _ _).alloc (Nat.le_refl _) _
  have hb2 : Below w.heap.size w w2 := by rw [hw2]; exact hb1.alloc hb1.size _
  have hb3 : Below w.heap.size w w3 := by rw [hw3]; exact hb2.alloc hb2.size _
  have hb4 : Below w.heap.size w w4 := by rw [hw4]; exact hb3.alloc hb3.size _
  have b23 : Below w2.heap.size w2 w3 := by rw [hw3]; exact (Below.refl _ _).alloc (Nat.le_refl _) _
  have b34 : Below w3.heap.size w3 w4 := by rw [hw4]; exact (Below.refl _ _).alloc (Nat.le_refl _) _
  have ho4 : w4.heap[w.heap.size + 1]? = some (.cells #[.int .i64 o.kind, .slice o.la o.ln o.lc, .slice o.ma o.mn o.mc, .int .i64 o.t, .int .i64 o.hi, .int .u64 o.v, .int .i64 o.gen] 39 (0, 0)) := heap_keep (heap_keep (by rw [← hz1, hw2]; exact heap_alloc_new w1 _) b23) b34
  have hr4 : w4.heap[w.heap.size + 2]? = some (.cells #[.slice none 0 0, .int .i64 0] 28 (0, 0)) := heap_keep (by rw [← hz2, hw3]; exact heap_alloc_new w2 _) b34
  have ha4 : w4.heap[w.heap.size + 3]? = some (.cells #[.int .i64 0, .int .i64 0, .slice none 0 0] 31 (0, 0)) := by rw [← hz3, hw4]; exact heap_alloc_new w3 _
  have HO4 := Lib.hid ho4; have HR4 := Lib.hid hr4; have HA4 := Lib.hid ha4; have HB4 := Lib.hid hb4; have HZ4 := Lib.hid hz4
  have HBG := Lib.hid (begin_any A n c q fl w4 (hA.later hb4))
  have HOP := Lib.hid (ho.later hb4)
  have HS9 := Lib.hid hs9
  clear hA ho ho4 hr4 ha4 hz4 hb4 hs9 hz1 hz2 hz3 hb1 hb2 hb3 b23 b34
  go_enter Try.func11, Try.ntmps11
  go_wp2_with fail
  rw [← hw1, ← hw2, ← hw3, ← hw4]
  clear hw1 hw2 hw3 hw4
  refine HBG.out.mono ?_; rintro e w5 ⟨b, v5, mb, q5, rfl, hbl, hml, hwk, hrows, hmap, hal, hb5⟩
  have hbz : b ≠ mb := by
    rintro rfl
    obtain ⟨es, clock, hm, -⟩ := hmap
    rw [hwk] at hm
    cases hm
  have HWO := Lib.hid (work_op o gen hwk)
  have HWK5 := Lib.hid hwk; have HRW5 := Lib.hid hrows; have HMP5 := Lib.hid hmap; have HAL5 := Lib.hid hal; have HB5 := Lib.hid hb5
  have f3 : w5.frozen? ⟨b, 3, none⟩ = false := frozen_of_row _ _ _ _ _ hwk
  have f4 : w5.frozen? ⟨b, 4, none⟩ = false := frozen_of_row _ _ _ _ _ hwk
  have f5 : w5.frozen? ⟨b, 5, none⟩ = false := frozen_of_row _ _ _ _ _ hwk
  have f6 : w5.frozen? ⟨b, 6, none⟩ = false := frozen_of_row _ _ _ _ _ hwk
  have f7 : w5.frozen? ⟨b, 7, none⟩ = false := frozen_of_row _ _ _ _ _ hwk
  have f8 : w5.frozen? ⟨b, 8, none⟩ = false := frozen_of_row _ _ _ _ _ hwk
  have f9 : w5.frozen? ⟨b, 9, none⟩ = false := frozen_of_row _ _ _ _ _ hwk
  have f10 : w5.frozen? ⟨b, 10, none⟩ = false := frozen_of_row _ _ _ _ _ hwk
  have z3 : w5.cell? ⟨b, 3, none⟩ = some (.int .i64 0) := cell_of_row _ _ _ _ _ _ hwk
  have z4 : w5.cell? ⟨b, 4, none⟩ = some (.slice none 0 0) := cell_of_row _ _ _ _ _ _ hwk
  have z5 : w5.cell? ⟨b, 5, none⟩ = some (.slice none 0 0) := cell_of_row _ _ _ _ _ _ hwk
  have z6 : w5.cell? ⟨b, 6, none⟩ = some (.int .i64 0) := cell_of_row _ _ _ _ _ _ hwk
  have z7 : w5.cell? ⟨b, 7, none⟩ = some (.int .i64 0) := cell_of_row _ _ _ _ _ _ hwk
  have z8 : w5.cell? ⟨b, 8, none⟩ = some (.int .u64 0) := cell_of_row _ _ _ _ _ _ hwk
  have z9 : w5.cell? ⟨b, 9, none⟩ = some (.int .i64 0) := cell_of_row _ _ _ _ _ _ hwk
  have z10 : w5.cell? ⟨b, 10, none⟩ = some (.int .i64 0) := cell_of_row _ _ _ _ _ _ hwk
  have ho5 := heap_keep HO4.out hb5
  have y0 : w5.cell? ⟨w.heap.size + 1, 0, none⟩ = some (.int .i64 o.kind) := cell_of_row _ _ _ _ _ _ ho5
  have y1 : w5.cell? ⟨w.heap.size + 1, 1, none⟩ = some (.slice o.la o.ln o.lc) := cell_of_row _ _ _ _ _ _ ho5
  have y2 : w5.cell? ⟨w.heap.size + 1, 2, none⟩ = some (.slice o.ma o.mn o.mc) := cell_of_row _ _ _ _ _ _ ho5
  have y3 : w5.cell? ⟨w.heap.size + 1, 3, none⟩ = some (.int .i64 o.t) := cell_of_row _ _ _ _ _ _ ho5
  have y4 : w5.cell? ⟨w.heap.size + 1, 4, none⟩ = some (.int .i64 o.hi) := cell_of_row _ _ _ _ _ _ ho5
  have y5 : w5.cell? ⟨w.heap.size + 1, 5, none⟩ = some (.int .u64 o.v) := cell_of_row _ _ _ _ _ _ ho5
  have y6 : w5.cell? ⟨w.heap.size + 1, 6, none⟩ = some (.int .i64 o.gen) := cell_of_row _ _ _ _ _ _ ho5
  have HNE : Hid (w.heap.size + 1 < b) := Lib.hid (by have := HZ4.out; omega)
  have hn1 : w.heap.size + 1 ≠ b := by have := HZ4.out; omega
  clear hwk hrows hmap hal hb5 ho5
  go_upto_region 3 with (fail)
  obtain ⟨w6, hw6⟩ : ∃ w6, w6 = ((((((((w5.setCell ⟨b, 3, none⟩ (.int .i64 o.kind)).setCell ⟨b, 4, none⟩ (.slice o.la o.ln o.lc)).setCell ⟨b, 5, none⟩ (.slice o.ma o.mn o.mc)).setCell ⟨b, 6, none⟩ (.int .i64 o.t)).setCell ⟨b, 7, none⟩ (.int .i64 o.hi)).setCell ⟨b, 8, none⟩ (.int .u64 o.v)).setCell ⟨b, 9, none⟩ (.int .i64 o.gen)).setCell ⟨b, 10, none⟩ (.int .i64 gen)) := ⟨_, rfl⟩
  rw [← hw6] at HWO ⊢
  clear hw6 f3 f4 f5 f6 f7 f8 f9 f10 z3 z4 z5 z6 z7 z8 z9 z10 y0 y1 y2 y3 y4 y5 y6
  have HB6 : Hid (Below w4.heap.size w4 w6) := Lib.hid (HB5.out.grown HWO.out.2 HB5.out.size (fun r e => by cases e; exact hbl))
  have HW6 : Hid (Work w4 w6 b v5 fl mb (opCells o) gen 0 0 (.slice none 0 0) (.slice none 0 0) n q5) := Lib.hid ⟨HB6.out, hbl, HWO.out.1, HRW5.out.kept HWK5.out (by decide) (by decide) (by decide) HWO.out.2, hml, HMP5.out.kept HWO.out.2 (fun e => by cases e; exact hbz rfl)⟩
  have HSN : Hid (∀ i, i < n → (q5 i).sn ≤ 900) := Lib.hid (fun i hi => by rw [(HAL5.out i hi).sn]; exact HS9.out i hi)
  have HSS : Hid (sers q5 n = sers q n) := Lib.hid (alike_sers HAL5.out)
  have HO6 := Lib.hid (heap_keep HO4.out HB6.out)
  clear HWO HWK5 HRW5 HMP5 HAL5 HB5 HS9 HO4
  obtain ⟨w7, hw7⟩ : ∃ w7, w7 = w6.alloc (.cells #[.func (.func 22) #[.pointer (some ⟨b, 0, none⟩)] #[], .func (.func 23) #[.pointer (some ⟨b, 0, none⟩)] #[], .func (.func 24) #[.pointer (some ⟨b, 0, none⟩)] #[], .func (.func 25) #[.pointer (some ⟨b, 0, none⟩)] #[]] 72) := ⟨_, rfl⟩
  have hb7 : Below w6.heap.size w6 w7 := by rw [hw7]; exact (Below.refl _ _).alloc (Nat.le_refl _) _
  have hf7 : w7.heap[w6.heap.size]? = some (.cells #[.func (.func 22) #[.pointer (some ⟨b, 0, none⟩)] #[], .func (.func 23) #[.pointer (some ⟨b, 0, none⟩)] #[], .func (.func 24) #[.pointer (some ⟨b, 0, none⟩)] #[], .func (.func 25) #[.pointer (some ⟨b, 0, none⟩)] #[]] 72 (0, 0)) := by rw [hw7]; exact heap_alloc_new w6 _
  have HW7 := Lib.hid (HW6.out.far hb7)
  have ho7 := heap_keep HO6.out hb7
  have y0 : w7.cell? ⟨w.heap.size + 1, 0, none⟩ = some (.int .i64 o.kind) := cell_of_row _ _ _ _ _ _ ho7
  have e0 : w7.cell? ⟨w6.heap.size, 0, none⟩ = some (.func (.func 22) #[.pointer (some ⟨b, 0, none⟩)] #[]) := cell_of_row _ _ _ _ _ _ hf7
  have e1 : w7.cell? ⟨w6.heap.size, 1, none⟩ = some (.func (.func 23) #[.pointer (some ⟨b, 0, none⟩)] #[]) := cell_of_row _ _ _ _ _ _ hf7
  have e2 : w7.cell? ⟨w6.heap.size, 2, none⟩ = some (.func (.func 24) #[.pointer (some ⟨b, 0, none⟩)] #[]) := cell_of_row _ _ _ _ _ _ hf7
  have e3 : w7.cell? ⟨w6.heap.size, 3, none⟩ = some (.func (.func 25) #[.pointer (some ⟨b, 0, none⟩)] #[]) := cell_of_row _ _ _ _ _ _ hf7
  have HE0 := Lib.hid e0; have HE1 := Lib.hid e1; have HE2 := Lib.hid e2; have HE3 := Lib.hid e3; have HY0 := Lib.hid y0
  clear hf7 ho7 hb7 e0 e1 e2 e3 y0
  have hmf := run_make_func
  go_upto_region 5 with (fail)
  rw [← hw7]
  clear hw7 hmf
  obtain ⟨r, hr⟩ : ∃ r, r = Tr.run par ⟨sers q n, fl⟩ o.op gen := ⟨_, rfl⟩
  have HQ := Lib.hid hr
  rw [← HSS.out] at hr
  have HERR : Hid (r.2.1.err ≠ 0 → r.2.1.n = 0 ∧ r.2.1.ser = [] ∧ r.2.2 = []) := Lib.hid (by rw [hr]; exact run_err _ _ _ _)
  have HRR := Lib.hid hr
  clear hr
  have hnn : n ≤ 1000 := by omega
  rcases (show o.kind = 0 ∨ o.kind = 1 ∨ o.kind = 2 ∨ o.kind = 3 ∨ (o.kind < 0 ∨ 3 < o.kind) by omega) with hk | hk | hk | hk | hk
  · have HC := Lib.hid (add_any HW7.out hn2 HSN.out HOP.out hk)
    rw [← HRR.out] at HC
    have e0 := HE0.out
    have y0 := HY0.out
    rw [hk] at y0
    clear hk
    go_wp2_with fail
    refine HC.out.mono ?_; rintro e w8 ⟨rfl, v8, mb8, n8, q8, cnt8, ans8, recs8, hw8, hs8, hn8, hok⟩
    clear e0 y0
    obtain ⟨A8, c8, rfl, -⟩ := hw8.rows.sers
    have HW8 := Lib.hid hw8; have HS8 := Lib.hid hs8; have HOK := Lib.hid hok
    have HR8 := Lib.hid (heap_keep HR4.out hw8.bel)
    have HA8 := Lib.hid (heap_keep HA4.out hw8.bel)
    have x0 : w8.cell? ⟨b, 0, none⟩ = some (.slice A8 n8 c8) := cell_of_row _ _ _ _ _ _ hw8.wk
    have x1 : w8.cell? ⟨b, 1, none⟩ = some (.int .i64 r.1.floor) := cell_of_row _ _ _ _ _ _ hw8.wk
    clear hw8 hs8 hok
    by_cases herr : r.2.1.err = 0
    · have HER := Lib.hid herr
      obtain ⟨hcnt, ⟨an, aq, hra, hsa, han⟩, m, rr, hor, hrl, hm⟩ := HOK.out herr
      obtain ⟨B, d, rfl, -⟩ := hra.sers_in han
      obtain ⟨C, f, rfl, -⟩ := hor.recs_in hm
      have HRA := Lib.hid hra; have HSA := Lib.hid hsa; have HOR := Lib.hid hor; have HRCL := Lib.hid hrl
      have HFIN := Lib.hid (show ∀ W9 : World, Keeps [28, 31] w8 W9 → Below w.heap.size w W9 → DoEnd w r (.returned (.tuple #[.agg #[.slice A8 n8 c8, .int .i64 r.1.floor], .agg #[.int .i64 0, .int .i64 cnt8, .slice B an d], .slice C m f])) W9 from fun W9 hk hb => by
        obtain ⟨A9, c9, e9, hs9⟩ := (HW8.out.rows.keeps hk (by decide) (by decide) (by decide)).sers
        cases e9
        obtain ⟨B9, d9, e9, hb9⟩ := (HRA.out.keeps hk (by decide) (by decide) (by decide)).sers_in han
        cases e9
        obtain ⟨C9, f9, e9, hc9⟩ := (HOR.out.keeps hk (by decide) (by decide)).recs_in hm
        cases e9
        exact ⟨A8, n8, c8, q8, B, an, d, aq, C, m, f, rr, by rw [HER.out, hcnt], hs9, HS8.out, hb9, HSA.out, hc9, HRCL.out, hb, (HW8.out.rows.keeps hk (by decide) (by decide) (by decide)).from_ HB4.out.size, (HOR.out.keeps hk (by decide) (by decide)).from_ HB4.out.size, HRA.out.cap⟩)
      rw [herr]
      clear herr hra hsa hor hrl hcnt
      go_wp2_with fail
      clear x0 x1
      have HRL := Lib.hid (fun W (h2 : Keeps [] w8 W) => res_laid (h2 _ _ HR8.out (fun _ _ _ _ h => by cases h)) (h2 _ _ HA8.out (fun _ _ _ _ h => by cases h)) (.slice A8 n8 c8) (.int .i64 r.1.floor) (.int .i64 0) (.int .i64 cnt8) (.slice B an d))
      have hbd : Below w8.heap.size w8 w8.drew := (Below.refl _ _).drew
      have HKD : Hid (Keeps [] w8 w8.drew) := Lib.hid (Keeps.below hbd)
      have HBW : Hid (Below w.heap.size w w8.drew) := Lib.hid (below_step (below_step HB4.out HW8.out.bel) hbd)
      have HKS : Hid (Keeps [28, 31] w8 w8.drew) := Lib.hid (Keeps.below hbd)
      refine plain_T (fun U => U.heap[b]? = some (.cells (workCells (.slice A8 n8 c8) r.1.floor (.map (some mb8)) (opCells o) gen 0 cnt8 (.slice B an d) (.slice C m f)) 70 (0, 0))) [] (by kernel_rfl) ?_
      have HBK := Lib.hid (heap_keep HW8.out.wk hbd)
      have HR9 := Lib.hid (heap_keep HR8.out hbd); have HA9 := Lib.hid (heap_keep HA8.out hbd)
      generalize w8.drew = wd at HKD HBW HKS HBK HR9 HA9 ⊢
      clear hbd
      have hbr : b ≠ w.heap.size + 2 ∧ b ≠ w.heap.size + 3 := by have := HZ4.out; omega
      have HBR := Lib.hid hbr
      clear hbr
      refine wpAnyT_pick (S := (fun U => U.heap[b]? = some (.cells (workCells (.slice A8 n8 c8) r.1.floor (.map (some mb8)) (opCells o) gen 0 cnt8 (.slice B an d) (.slice C m f)) 70 (0, 0)))) (by kernel_rfl) Only.panic Only.keepsIn (w := wd) HBK.out [0, 1, 2, 3, 4, 5, 6, 7, 8, 9, 10, 11] 3 _ _ (by kernel_rfl) ?_
      refine PickT.value (d := some 52) (.pointer (some ⟨b, 0, none⟩)) rfl rfl (by kernel_rfl) (fun U hU => (by go_simp)) ?_
      refine PickT.value (d := some 53) (.pointer (some ⟨b, 0, none⟩)) rfl rfl (by kernel_rfl) (fun U hU => (by go_simp)) ?_
      refine PickT.value (d := some 54) (.pointer (some ⟨b, 0, none⟩)) rfl rfl (by kernel_rfl) (fun U hU => (by go_simp)) ?_
      refine PickT.value (d := some 55) (.agg #[.slice A8 n8 c8, .int .i64 r.1.floor]) rfl rfl (by kernel_rfl) (fun U hU => (by have h0 : U.cell? ⟨b, 0, none⟩ = some (.slice A8 n8 c8) := cell_of_row _ _ _ _ _ _ hU; have h1 : U.cell? ⟨b, 1, none⟩ = some (.int .i64 r.1.floor) := cell_of_row _ _ _ _ _ _ hU; go_simp)) ?_
      refine PickT.value (d := some 56) (.pointer (some ⟨b, 0, none⟩)) rfl rfl (by kernel_rfl) (fun U hU => (by go_simp)) ?_
      refine PickT.value (d := some 57) (.pointer (some ⟨b, 0, none⟩)) rfl rfl (by kernel_rfl) (fun U hU => (by go_simp)) ?_
      refine PickT.value (d := some 58) (.pointer (some ⟨b, 11, none⟩)) rfl rfl (by kernel_rfl) (fun U hU => (by go_simp)) ?_
      refine PickT.value (d := some 59) (.agg #[.int .i64 0, .int .i64 cnt8, .slice B an d]) rfl rfl (by kernel_rfl) (fun U hU => (by have h0 : U.cell? ⟨b, 11, none⟩ = some (.int .i64 0) := cell_of_row _ _ _ _ _ _ hU; have h1 : U.cell? ⟨b, 12, none⟩ = some (.int .i64 cnt8) := cell_of_row _ _ _ _ _ _ hU; have h2 : U.cell? ⟨b, 13, none⟩ = some (.slice B an d) := cell_of_row _ _ _ _ _ _ hU; go_simp)) ?_
      refine PickT.value (d := some 60) (.pointer (some ⟨b, 0, none⟩)) rfl rfl (by kernel_rfl) (fun U hU => (by go_simp)) ?_
      refine PickT.value (d := some 61) (.pointer (some ⟨b, 0, none⟩)) rfl rfl (by kernel_rfl) (fun U hU => (by go_simp)) ?_
      refine PickT.value (d := some 62) (.pointer (some ⟨b, 14, none⟩)) rfl rfl (by kernel_rfl) (fun U hU => (by go_simp)) ?_
      refine PickT.value (d := some 63) (.slice C m f) rfl rfl (by kernel_rfl) (fun U hU => (by have h0 : U.cell? ⟨b, 14, none⟩ = some (.slice C m f) := cell_of_row _ _ _ _ _ _ hU; go_simp)) ?_
      simp only [PickT, Act.put, List.setIfInBounds_toArray, List.set_cons_zero, List.set_cons_succ]
      have p0 : wd.cell? ⟨w.heap.size + 2, 0, none⟩ = some (.slice none 0 0) := cell_of_row _ _ _ _ _ _ HR9.out
      have p1 : wd.cell? ⟨w.heap.size + 2, 1, none⟩ = some (.int .i64 0) := cell_of_row _ _ _ _ _ _ HR9.out
      have p2 : wd.cell? ⟨w.heap.size + 3, 0, none⟩ = some (.int .i64 0) := cell_of_row _ _ _ _ _ _ HA9.out
      have p3 : wd.cell? ⟨w.heap.size + 3, 1, none⟩ = some (.int .i64 0) := cell_of_row _ _ _ _ _ _ HA9.out
      have p4 : wd.cell? ⟨w.heap.size + 3, 2, none⟩ = some (.slice none 0 0) := cell_of_row _ _ _ _ _ _ HA9.out
      have g0 : wd.frozen? ⟨w.heap.size + 2, 0, none⟩ = false := frozen_of_row _ _ _ _ _ HR9.out
      have g1 : wd.frozen? ⟨w.heap.size + 2, 1, none⟩ = false := frozen_of_row _ _ _ _ _ HR9.out
      have g2 : wd.frozen? ⟨w.heap.size + 3, 0, none⟩ = false := frozen_of_row _ _ _ _ _ HA9.out
      have g3 : wd.frozen? ⟨w.heap.size + 3, 1, none⟩ = false := frozen_of_row _ _ _ _ _ HA9.out
      have g4 : wd.frozen? ⟨w.heap.size + 3, 2, none⟩ = false := frozen_of_row _ _ _ _ _ HA9.out
      refine wpAnyT_one (i := 12) (by kernel_rfl) rfl (by kernel_rfl) ?_
      intro K hK
      unfold Oper.wp
      go_simp
      have HBK2 : Hid (((wd.setCell ⟨w.heap.size + 2, 0, none⟩ (.slice A8 n8 c8)).setCell ⟨w.heap.size + 2, 1, none⟩ (.int .i64 r.1.floor)).heap[b]? = some (.cells (workCells (.slice A8 n8 c8) r.1.floor (.map (some mb8)) (opCells o) gen 0 cnt8 (.slice B an d) (.slice C m f)) 70 (0, 0))) := Lib.hid (((grown_trans (grown_setCell wd (w.heap.size + 2) 0 (.slice A8 n8 c8)) (grown_setCell _ (w.heap.size + 2) 1 (.int .i64 r.1.floor))).block b (Array.getElem?_eq_some_iff.1 HBK.out).1 (fun e => by cases e; exact HBR.out.1 rfl)).trans HBK.out)
      refine hK _ _ (fun _ => HBK2.out) ?_
      clear hK K
      refine wpAnyT_one (i := 13) (by kernel_rfl) rfl (by kernel_rfl) ?_
      intro K hK
      unfold Oper.wp
      go_simp
      have HBK3 : Hid ((((((wd.setCell ⟨w.heap.size + 2, 0, none⟩ (.slice A8 n8 c8)).setCell ⟨w.heap.size + 2, 1, none⟩ (.int .i64 r.1.floor)).setCell ⟨w.heap.size + 3, 0, none⟩ (.int .i64 0)).setCell ⟨w.heap.size + 3, 1, none⟩ (.int .i64 cnt8)).setCell ⟨w.heap.size + 3, 2, none⟩ (.slice B an d)).heap[b]? = some (.cells (workCells (.slice A8 n8 c8) r.1.floor (.map (some mb8)) (opCells o) gen 0 cnt8 (.slice B an d) (.slice C m f)) 70 (0, 0))) := Lib.hid (((grown_trans (grown_trans (grown_setCell ((wd.setCell ⟨w.heap.size + 2, 0, none⟩ (.slice A8 n8 c8)).setCell ⟨w.heap.size + 2, 1, none⟩ (.int .i64 r.1.floor)) (w.heap.size + 3) 0 (.int .i64 0)) (grown_setCell _ (w.heap.size + 3) 1 (.int .i64 cnt8))) (grown_setCell _ (w.heap.size + 3) 2 (.slice B an d))).block b (Array.getElem?_eq_some_iff.1 HBK2.out).1 (fun e => by cases e; exact HBR.out.2 rfl)).trans HBK2.out)
      refine hK _ _ (fun _ => HBK3.out) ?_
      clear hK K
      obtain ⟨k2, k3, kk, kb⟩ := HRL.out _ HKD.out
      have hfin := HFIN.out _ (HKS.out.trans kk) (kb w (by omega) (by omega) HBW.out)
      have r0 := cell_of_row _ _ 0 _ _ _ k2
      have r1 := cell_of_row _ _ 1 _ _ _ k2
      have r2 := cell_of_row _ _ 0 _ _ _ k3
      have r3 := cell_of_row _ _ 1 _ _ _ k3
      have r4 := cell_of_row _ _ 2 _ _ _ k3
      generalize hww : (((((wd.setCell ⟨w.heap.size + 2, 0, none⟩ (.slice A8 n8 c8)).setCell ⟨w.heap.size + 2, 1, none⟩ (.int .i64 r.1.floor)).setCell ⟨w.heap.size + 3, 0, none⟩ (.int .i64 0)).setCell ⟨w.heap.size + 3, 1, none⟩ (.int .i64 cnt8)).setCell ⟨w.heap.size + 3, 2, none⟩ (.slice B an d)) = ww at HBK3 k2 k3 kk kb hfin r0 r1 r2 r3 r4 ⊢
      clear hww k2 k3 kk kb
      refine wpAnyT_pick (S := (fun U => U.heap[b]? = some (.cells (workCells (.slice A8 n8 c8) r.1.floor (.map (some mb8)) (opCells o) gen 0 cnt8 (.slice B an d) (.slice C m f)) 70 (0, 0)))) (by kernel_rfl) Only.panic Only.keepsIn (w := ww) HBK3.out [14] 0 _ _ (by kernel_rfl) ?_
      refine PickT.value (d := some 8) (.slice C m f) rfl rfl (by kernel_rfl) (fun U hU => (by go_simp)) ?_
      simp only [PickT, Act.put, List.setIfInBounds_toArray, List.set_cons_zero, List.set_cons_succ]
      refine wpAnyT_done (by kernel_rfl) ?_ _
      refine Only.next ?_
      go_wp2_with fail
      refine bodyPost_ret (v := .tuple #[.agg #[.slice A8 n8 c8, .int .i64 r.1.floor], .agg #[.int .i64 0, .int .i64 cnt8, .slice B an d], .slice C m f]) (by simp [results, go_sem, r0, r1, r2, r3, r4]) rfl (by rw [← HQ.out]; exact hfin)
    · obtain ⟨e1, e2, e3⟩ := HERR.out herr
      have p0 : w8.cell? ⟨w.heap.size + 2, 0, none⟩ = some (.slice none 0 0) := cell_of_row _ _ _ _ _ _ HR8.out
      have p1 : w8.cell? ⟨w.heap.size + 2, 1, none⟩ = some (.int .i64 0) := cell_of_row _ _ _ _ _ _ HR8.out
      have p2 : w8.cell? ⟨w.heap.size + 3, 0, none⟩ = some (.int .i64 0) := cell_of_row _ _ _ _ _ _ HA8.out
      have p3 : w8.cell? ⟨w.heap.size + 3, 1, none⟩ = some (.int .i64 0) := cell_of_row _ _ _ _ _ _ HA8.out
      have p4 : w8.cell? ⟨w.heap.size + 3, 2, none⟩ = some (.slice none 0 0) := cell_of_row _ _ _ _ _ _ HA8.out
      have g0 : w8.frozen? ⟨w.heap.size + 2, 0, none⟩ = false := frozen_of_row _ _ _ _ _ HR8.out
      have g1 : w8.frozen? ⟨w.heap.size + 2, 1, none⟩ = false := frozen_of_row _ _ _ _ _ HR8.out
      have g2 : w8.frozen? ⟨w.heap.size + 3, 0, none⟩ = false := frozen_of_row _ _ _ _ _ HA8.out
      have g3 : w8.frozen? ⟨w.heap.size + 3, 1, none⟩ = false := frozen_of_row _ _ _ _ _ HA8.out
      have g4 : w8.frozen? ⟨w.heap.size + 3, 2, none⟩ = false := frozen_of_row _ _ _ _ _ HA8.out
      have HRL := Lib.hid (res_laid HR8.out HA8.out (.slice A8 n8 c8) (.int .i64 r.1.floor) (.int .i64 r.2.1.err) (.int .i64 0) (.slice none 0 0))
      have HFIN := Lib.hid (show ∀ W9 : World, Keeps [28, 31] w8 W9 → Below w.heap.size w W9 → DoEnd w r (.returned (.tuple #[.agg #[.slice A8 n8 c8, .int .i64 r.1.floor], .agg #[.int .i64 r.2.1.err, .int .i64 0, .slice none 0 0], .slice none 0 0])) W9 from fun W9 hk hb => by
        obtain ⟨A9, c9, e9, hs9⟩ := (HW8.out.rows.keeps hk (by decide) (by decide) (by decide)).sers
        cases e9
        refine ⟨A8, n8, c8, q8, none, 0, 0, q8, none, 0, 0, fun _ => rec2 0, by rw [e1], hs9, HS8.out, ⟨fun h => by omega, fun _ => ⟨rfl, rfl⟩, by omega, fun i hi => by omega⟩, by rw [e2]; rfl, ⟨fun h => by omega, fun _ => ⟨rfl, rfl⟩, by omega, fun i hi => by omega⟩, by rw [e3]; rfl, hb, (HW8.out.rows.keeps hk (by decide) (by decide) (by decide)).from_ HB4.out.size, ⟨World.ownsRow_nil _ _ _ _, fun i hi => by omega⟩, Nat.le_refl 0⟩)
      have hne : w.heap.size + 2 ≠ w.heap.size + 3 := by omega
      have hbw : Hid (Below w.heap.size w w8) := Lib.hid (below_step HB4.out HW8.out.bel)
      have q1 : (r.2.1.err == 0) = false := by simpa using herr
      have q2 : (r.2.1.err != 0) = true := by simpa using herr
      generalize r.2.1.err = er at *
      generalize r.1.floor = fr at *
      clear e1 e2 e3
      go_wp2_with fail
      obtain ⟨k2, k3, kk, kb⟩ := HRL.out
      have hfin := HFIN.out _ kk (kb w (by omega) (by omega) hbw.out)
      have r0 := cell_of_row _ _ 0 _ _ _ k2
      have r1 := cell_of_row _ _ 1 _ _ _ k2
      have r2 := cell_of_row _ _ 0 _ _ _ k3
      have r3 := cell_of_row _ _ 1 _ _ _ k3
      have r4 := cell_of_row _ _ 2 _ _ _ k3
      refine bodyPost_ret (v := .tuple #[.agg #[.slice A8 n8 c8, .int .i64 fr], .agg #[.int .i64 er, .int .i64 0, .slice none 0 0], .slice none 0 0]) (by simp [results, go_sem, r0, r1, r2, r3, r4]) rfl (by rw [← HQ.out]; exact hfin)
  · have HC := Lib.hid (remove_any HW7.out HOP.out hk)
    rw [← HRR.out] at HC
    have e0 := HE1.out
    have y0 := HY0.out
    rw [hk] at y0
    clear hk
    go_wp2_with fail
    refine HC.out.mono ?_; rintro e w8 ⟨rfl, v8, mb8, n8, q8, cnt8, ans8, recs8, hw8, hs8, hn8, hok⟩
    clear e0 y0
    obtain ⟨A8, c8, rfl, -⟩ := hw8.rows.sers
    have HW8 := Lib.hid hw8; have HS8 := Lib.hid hs8; have HOK := Lib.hid hok
    have HR8 := Lib.hid (heap_keep HR4.out hw8.bel)
    have HA8 := Lib.hid (heap_keep HA4.out hw8.bel)
    have x0 : w8.cell? ⟨b, 0, none⟩ = some (.slice A8 n8 c8) := cell_of_row _ _ _ _ _ _ hw8.wk
    have x1 : w8.cell? ⟨b, 1, none⟩ = some (.int .i64 r.1.floor) := cell_of_row _ _ _ _ _ _ hw8.wk
    clear hw8 hs8 hok
    by_cases herr : r.2.1.err = 0
    · have HER := Lib.hid herr
      obtain ⟨hcnt, ⟨an, aq, hra, hsa, han⟩, m, rr, hor, hrl, hm⟩ := HOK.out herr
      obtain ⟨B, d, rfl, -⟩ := hra.sers_in han
      obtain ⟨C, f, rfl, -⟩ := hor.recs_in hm
      have HRA := Lib.hid hra; have HSA := Lib.hid hsa; have HOR := Lib.hid hor; have HRCL := Lib.hid hrl
      have HFIN := Lib.hid (show ∀ W9 : World, Keeps [28, 31] w8 W9 → Below w.heap.size w W9 → DoEnd w r (.returned (.tuple #[.agg #[.slice A8 n8 c8, .int .i64 r.1.floor], .agg #[.int .i64 0, .int .i64 cnt8, .slice B an d], .slice C m f])) W9 from fun W9 hk hb => by
        obtain ⟨A9, c9, e9, hs9⟩ := (HW8.out.rows.keeps hk (by decide) (by decide) (by decide)).sers
        cases e9
        obtain ⟨B9, d9, e9, hb9⟩ := (HRA.out.keeps hk (by decide) (by decide) (by decide)).sers_in han
        cases e9
        obtain ⟨C9, f9, e9, hc9⟩ := (HOR.out.keeps hk (by decide) (by decide)).recs_in hm
        cases e9
        exact ⟨A8, n8, c8, q8, B, an, d, aq, C, m, f, rr, by rw [HER.out, hcnt], hs9, HS8.out, hb9, HSA.out, hc9, HRCL.out, hb, (HW8.out.rows.keeps hk (by decide) (by decide) (by decide)).from_ HB4.out.size, (HOR.out.keeps hk (by decide) (by decide)).from_ HB4.out.size, HRA.out.cap⟩)
      rw [herr]
      clear herr hra hsa hor hrl hcnt
      go_wp2_with fail
      clear x0 x1
      have HRL := Lib.hid (fun W (h2 : Keeps [] w8 W) => res_laid (h2 _ _ HR8.out (fun _ _ _ _ h => by cases h)) (h2 _ _ HA8.out (fun _ _ _ _ h => by cases h)) (.slice A8 n8 c8) (.int .i64 r.1.floor) (.int .i64 0) (.int .i64 cnt8) (.slice B an d))
      have hbd : Below w8.heap.size w8 w8.drew := (Below.refl _ _).drew
      have HKD : Hid (Keeps [] w8 w8.drew) := Lib.hid (Keeps.below hbd)
      have HBW : Hid (Below w.heap.size w w8.drew) := Lib.hid (below_step (below_step HB4.out HW8.out.bel) hbd)
      have HKS : Hid (Keeps [28, 31] w8 w8.drew) := Lib.hid (Keeps.below hbd)
      refine plain_T (fun U => U.heap[b]? = some (.cells (workCells (.slice A8 n8 c8) r.1.floor (.map (some mb8)) (opCells o) gen 0 cnt8 (.slice B an d) (.slice C m f)) 70 (0, 0))) [] (by kernel_rfl) ?_
      have HBK := Lib.hid (heap_keep HW8.out.wk hbd)
      have HR9 := Lib.hid (heap_keep HR8.out hbd); have HA9 := Lib.hid (heap_keep HA8.out hbd)
      generalize w8.drew = wd at HKD HBW HKS HBK HR9 HA9 ⊢
      clear hbd
      have hbr : b ≠ w.heap.size + 2 ∧ b ≠ w.heap.size + 3 := by have := HZ4.out; omega
      have HBR := Lib.hid hbr
      clear hbr
      refine wpAnyT_pick (S := (fun U => U.heap[b]? = some (.cells (workCells (.slice A8 n8 c8) r.1.floor (.map (some mb8)) (opCells o) gen 0 cnt8 (.slice B an d) (.slice C m f)) 70 (0, 0)))) (by kernel_rfl) Only.panic Only.keepsIn (w := wd) HBK.out [0, 1, 2, 3, 4, 5, 6, 7, 8, 9, 10, 11] 3 _ _ (by kernel_rfl) ?_
      refine PickT.value (d := some 52) (.pointer (some ⟨b, 0, none⟩)) rfl rfl (by kernel_rfl) (fun U hU => (by go_simp)) ?_
      refine PickT.value (d := some 53) (.pointer (some ⟨b, 0, none⟩)) rfl rfl (by kernel_rfl) (fun U hU => (by go_simp)) ?_
      refine PickT.value (d := some 54) (.pointer (some ⟨b, 0, none⟩)) rfl rfl (by kernel_rfl) (fun U hU => (by go_simp)) ?_
      refine PickT.value (d := some 55) (.agg #[.slice A8 n8 c8, .int .i64 r.1.floor]) rfl rfl (by kernel_rfl) (fun U hU => (by have h0 : U.cell? ⟨b, 0, none⟩ = some (.slice A8 n8 c8) := cell_of_row _ _ _ _ _ _ hU; have h1 : U.cell? ⟨b, 1, none⟩ = some (.int .i64 r.1.floor) := cell_of_row _ _ _ _ _ _ hU; go_simp)) ?_
      refine PickT.value (d := some 56) (.pointer (some ⟨b, 0, none⟩)) rfl rfl (by kernel_rfl) (fun U hU => (by go_simp)) ?_
      refine PickT.value (d := some 57) (.pointer (some ⟨b, 0, none⟩)) rfl rfl (by kernel_rfl) (fun U hU => (by go_simp)) ?_
      refine PickT.value (d := some 58) (.pointer (some ⟨b, 11, none⟩)) rfl rfl (by kernel_rfl) (fun U hU => (by go_simp)) ?_
      refine PickT.value (d := some 59) (.agg #[.int .i64 0, .int .i64 cnt8, .slice B an d]) rfl rfl (by kernel_rfl) (fun U hU => (by have h0 : U.cell? ⟨b, 11, none⟩ = some (.int .i64 0) := cell_of_row _ _ _ _ _ _ hU; have h1 : U.cell? ⟨b, 12, none⟩ = some (.int .i64 cnt8) := cell_of_row _ _ _ _ _ _ hU; have h2 : U.cell? ⟨b, 13, none⟩ = some (.slice B an d) := cell_of_row _ _ _ _ _ _ hU; go_simp)) ?_
      refine PickT.value (d := some 60) (.pointer (some ⟨b, 0, none⟩)) rfl rfl (by kernel_rfl) (fun U hU => (by go_simp)) ?_
      refine PickT.value (d := some 61) (.pointer (some ⟨b, 0, none⟩)) rfl rfl (by kernel_rfl) (fun U hU => (by go_simp)) ?_
      refine PickT.value (d := some 62) (.pointer (some ⟨b, 14, none⟩)) rfl rfl (by kernel_rfl) (fun U hU => (by go_simp)) ?_
      refine PickT.value (d := some 63) (.slice C m f) rfl rfl (by kernel_rfl) (fun U hU => (by have h0 : U.cell? ⟨b, 14, none⟩ = some (.slice C m f) := cell_of_row _ _ _ _ _ _ hU; go_simp)) ?_
      simp only [PickT, Act.put, List.setIfInBounds_toArray, List.set_cons_zero, List.set_cons_succ]
      have p0 : wd.cell? ⟨w.heap.size + 2, 0, none⟩ = some (.slice none 0 0) := cell_of_row _ _ _ _ _ _ HR9.out
      have p1 : wd.cell? ⟨w.heap.size + 2, 1, none⟩ = some (.int .i64 0) := cell_of_row _ _ _ _ _ _ HR9.out
      have p2 : wd.cell? ⟨w.heap.size + 3, 0, none⟩ = some (.int .i64 0) := cell_of_row _ _ _ _ _ _ HA9.out
      have p3 : wd.cell? ⟨w.heap.size + 3, 1, none⟩ = some (.int .i64 0) := cell_of_row _ _ _ _ _ _ HA9.out
      have p4 : wd.cell? ⟨w.heap.size + 3, 2, none⟩ = some (.slice none 0 0) := cell_of_row _ _ _ _ _ _ HA9.out
      have g0 : wd.frozen? ⟨w.heap.size + 2, 0, none⟩ = false := frozen_of_row _ _ _ _ _ HR9.out
      have g1 : wd.frozen? ⟨w.heap.size + 2, 1, none⟩ = false := frozen_of_row _ _ _ _ _ HR9.out
      have g2 : wd.frozen? ⟨w.heap.size + 3, 0, none⟩ = false := frozen_of_row _ _ _ _ _ HA9.out
      have g3 : wd.frozen? ⟨w.heap.size + 3, 1, none⟩ = false := frozen_of_row _ _ _ _ _ HA9.out
      have g4 : wd.frozen? ⟨w.heap.size + 3, 2, none⟩ = false := frozen_of_row _ _ _ _ _ HA9.out
      refine wpAnyT_one (i := 12) (by kernel_rfl) rfl (by kernel_rfl) ?_
      intro K hK
      unfold Oper.wp
      go_simp
      have HBK2 : Hid (((wd.setCell ⟨w.heap.size + 2, 0, none⟩ (.slice A8 n8 c8)).setCell ⟨w.heap.size + 2, 1, none⟩ (.int .i64 r.1.floor)).heap[b]? = some (.cells (workCells (.slice A8 n8 c8) r.1.floor (.map (some mb8)) (opCells o) gen 0 cnt8 (.slice B an d) (.slice C m f)) 70 (0, 0))) := Lib.hid (((grown_trans (grown_setCell wd (w.heap.size + 2) 0 (.slice A8 n8 c8)) (grown_setCell _ (w.heap.size + 2) 1 (.int .i64 r.1.floor))).block b (Array.getElem?_eq_some_iff.1 HBK.out).1 (fun e => by cases e; exact HBR.out.1 rfl)).trans HBK.out)
      refine hK _ _ (fun _ => HBK2.out) ?_
      clear hK K
      refine wpAnyT_one (i := 13) (by kernel_rfl) rfl (by kernel_rfl) ?_
      intro K hK
      unfold Oper.wp
      go_simp
      have HBK3 : Hid ((((((wd.setCell ⟨w.heap.size + 2, 0, none⟩ (.slice A8 n8 c8)).setCell ⟨w.heap.size + 2, 1, none⟩ (.int .i64 r.1.floor)).setCell ⟨w.heap.size + 3, 0, none⟩ (.int .i64 0)).setCell ⟨w.heap.size + 3, 1, none⟩ (.int .i64 cnt8)).setCell ⟨w.heap.size + 3, 2, none⟩ (.slice B an d)).heap[b]? = some (.cells (workCells (.slice A8 n8 c8) r.1.floor (.map (some mb8)) (opCells o) gen 0 cnt8 (.slice B an d) (.slice C m f)) 70 (0, 0))) := Lib.hid (((grown_trans (grown_trans (grown_setCell ((wd.setCell ⟨w.heap.size + 2, 0, none⟩ (.slice A8 n8 c8)).setCell ⟨w.heap.size + 2, 1, none⟩ (.int .i64 r.1.floor)) (w.heap.size + 3) 0 (.int .i64 0)) (grown_setCell _ (w.heap.size + 3) 1 (.int .i64 cnt8))) (grown_setCell _ (w.heap.size + 3) 2 (.slice B an d))).block b (Array.getElem?_eq_some_iff.1 HBK2.out).1 (fun e => by cases e; exact HBR.out.2 rfl)).trans HBK2.out)
      refine hK _ _ (fun _ => HBK3.out) ?_
      clear hK K
      obtain ⟨k2, k3, kk, kb⟩ := HRL.out _ HKD.out
      have hfin := HFIN.out _ (HKS.out.trans kk) (kb w (by omega) (by omega) HBW.out)
      have r0 := cell_of_row _ _ 0 _ _ _ k2
      have r1 := cell_of_row _ _ 1 _ _ _ k2
      have r2 := cell_of_row _ _ 0 _ _ _ k3
      have r3 := cell_of_row _ _ 1 _ _ _ k3
      have r4 := cell_of_row _ _ 2 _ _ _ k3
      generalize hww : (((((wd.setCell ⟨w.heap.size + 2, 0, none⟩ (.slice A8 n8 c8)).setCell ⟨w.heap.size + 2, 1, none⟩ (.int .i64 r.1.floor)).setCell ⟨w.heap.size + 3, 0, none⟩ (.int .i64 0)).setCell ⟨w.heap.size + 3, 1, none⟩ (.int .i64 cnt8)).setCell ⟨w.heap.size + 3, 2, none⟩ (.slice B an d)) = ww at HBK3 k2 k3 kk kb hfin r0 r1 r2 r3 r4 ⊢
      clear hww k2 k3 kk kb
      refine wpAnyT_pick (S := (fun U => U.heap[b]? = some (.cells (workCells (.slice A8 n8 c8) r.1.floor (.map (some mb8)) (opCells o) gen 0 cnt8 (.slice B an d) (.slice C m f)) 70 (0, 0)))) (by kernel_rfl) Only.panic Only.keepsIn (w := ww) HBK3.out [14] 0 _ _ (by kernel_rfl) ?_
      refine PickT.value (d := some 8) (.slice C m f) rfl rfl (by kernel_rfl) (fun U hU => (by go_simp)) ?_
      simp only [PickT, Act.put, List.setIfInBounds_toArray, List.set_cons_zero, List.set_cons_succ]
      refine wpAnyT_done (by kernel_rfl) ?_ _
      refine Only.next ?_
      go_wp2_with fail
      refine bodyPost_ret (v := .tuple #[.agg #[.slice A8 n8 c8, .int .i64 r.1.floor], .agg #[.int .i64 0, .int .i64 cnt8, .slice B an d], .slice C m f]) (by simp [results, go_sem, r0, r1, r2, r3, r4]) rfl (by rw [← HQ.out]; exact hfin)
    · obtain ⟨e1, e2, e3⟩ := HERR.out herr
      have p0 : w8.cell? ⟨w.heap.size + 2, 0, none⟩ = some (.slice none 0 0) := cell_of_row _ _ _ _ _ _ HR8.out
      have p1 : w8.cell? ⟨w.heap.size + 2, 1, none⟩ = some (.int .i64 0) := cell_of_row _ _ _ _ _ _ HR8.out
      have p2 : w8.cell? ⟨w.heap.size + 3, 0, none⟩ = some (.int .i64 0) := cell_of_row _ _ _ _ _ _ HA8.out
      have p3 : w8.cell? ⟨w.heap.size + 3, 1, none⟩ = some (.int .i64 0) := cell_of_row _ _ _ _ _ _ HA8.out
      have p4 : w8.cell? ⟨w.heap.size + 3, 2, none⟩ = some (.slice none 0 0) := cell_of_row _ _ _ _ _ _ HA8.out
      have g0 : w8.frozen? ⟨w.heap.size + 2, 0, none⟩ = false := frozen_of_row _ _ _ _ _ HR8.out
      have g1 : w8.frozen? ⟨w.heap.size + 2, 1, none⟩ = false := frozen_of_row _ _ _ _ _ HR8.out
      have g2 : w8.frozen? ⟨w.heap.size + 3, 0, none⟩ = false := frozen_of_row _ _ _ _ _ HA8.out
      have g3 : w8.frozen? ⟨w.heap.size + 3, 1, none⟩ = false := frozen_of_row _ _ _ _ _ HA8.out
      have g4 : w8.frozen? ⟨w.heap.size + 3, 2, none⟩ = false := frozen_of_row _ _ _ _ _ HA8.out
      have HRL := Lib.hid (res_laid HR8.out HA8.out (.slice A8 n8 c8) (.int .i64 r.1.floor) (.int .i64 r.2.1.err) (.int .i64 0) (.slice none 0 0))
      have HFIN := Lib.hid (show ∀ W9 : World, Keeps [28, 31] w8 W9 → Below w.heap.size w W9 → DoEnd w r (.returned (.tuple #[.agg #[.slice A8 n8 c8, .int .i64 r.1.floor], .agg #[.int .i64 r.2.1.err, .int .i64 0, .slice none 0 0], .slice none 0 0])) W9 from fun W9 hk hb => by
        obtain ⟨A9, c9, e9, hs9⟩ := (HW8.out.rows.keeps hk (by decide) (by decide) (by decide)).sers
        cases e9
        refine ⟨A8, n8, c8, q8, none, 0, 0, q8, none, 0, 0, fun _ => rec2 0, by rw [e1], hs9, HS8.out, ⟨fun h => by omega, fun _ => ⟨rfl, rfl⟩, by omega, fun i hi => by omega⟩, by rw [e2]; rfl, ⟨fun h => by omega, fun _ => ⟨rfl, rfl⟩, by omega, fun i hi => by omega⟩, by rw [e3]; rfl, hb, (HW8.out.rows.keeps hk (by decide) (by decide) (by decide)).from_ HB4.out.size, ⟨World.ownsRow_nil _ _ _ _, fun i hi => by omega⟩, Nat.le_refl 0⟩)
      have hne : w.heap.size + 2 ≠ w.heap.size + 3 := by omega
      have hbw : Hid (Below w.heap.size w w8) := Lib.hid (below_step HB4.out HW8.out.bel)
      have q1 : (r.2.1.err == 0) = false := by simpa using herr
      have q2 : (r.2.1.err != 0) = true := by simpa using herr
      generalize r.2.1.err = er at *
      generalize r.1.floor = fr at *
      clear e1 e2 e3
      go_wp2_with fail
      obtain ⟨k2, k3, kk, kb⟩ := HRL.out
      have hfin := HFIN.out _ kk (kb w (by omega) (by omega) hbw.out)
      have r0 := cell_of_row _ _ 0 _ _ _ k2
      have r1 := cell_of_row _ _ 1 _ _ _ k2
      have r2 := cell_of_row _ _ 0 _ _ _ k3
      have r3 := cell_of_row _ _ 1 _ _ _ k3
      have r4 := cell_of_row _ _ 2 _ _ _ k3
      refine bodyPost_ret (v := .tuple #[.agg #[.slice A8 n8 c8, .int .i64 fr], .agg #[.int .i64 er, .int .i64 0, .slice none 0 0], .slice none 0 0]) (by simp [results, go_sem, r0, r1, r2, r3, r4]) rfl (by rw [← HQ.out]; exact hfin)
  · have HC := Lib.hid (keep_any HW7.out hk)
    rw [← HRR.out] at HC
    have e0 := HE2.out
    have y0 := HY0.out
    rw [hk] at y0
    clear hk
    go_wp2_with fail
    refine HC.out.mono ?_; rintro e w8 ⟨rfl, v8, mb8, n8, q8, cnt8, ans8, recs8, hw8, hs8, hn8, hok⟩
    clear e0 y0
    obtain ⟨A8, c8, rfl, -⟩ := hw8.rows.sers
    have HW8 := Lib.hid hw8; have HS8 := Lib.hid hs8; have HOK := Lib.hid hok
    have HR8 := Lib.hid (heap_keep HR4.out hw8.bel)
    have HA8 := Lib.hid (heap_keep HA4.out hw8.bel)
    have x0 : w8.cell? ⟨b, 0, none⟩ = some (.slice A8 n8 c8) := cell_of_row _ _ _ _ _ _ hw8.wk
    have x1 : w8.cell? ⟨b, 1, none⟩ = some (.int .i64 r.1.floor) := cell_of_row _ _ _ _ _ _ hw8.wk
    clear hw8 hs8 hok
    by_cases herr : r.2.1.err = 0
    · have HER := Lib.hid herr
      obtain ⟨hcnt, ⟨an, aq, hra, hsa, han⟩, m, rr, hor, hrl, hm⟩ := HOK.out herr
      obtain ⟨B, d, rfl, -⟩ := hra.sers_in han
      obtain ⟨C, f, rfl, -⟩ := hor.recs_in hm
      have HRA := Lib.hid hra; have HSA := Lib.hid hsa; have HOR := Lib.hid hor; have HRCL := Lib.hid hrl
      have HFIN := Lib.hid (show ∀ W9 : World, Keeps [28, 31] w8 W9 → Below w.heap.size w W9 → DoEnd w r (.returned (.tuple #[.agg #[.slice A8 n8 c8, .int .i64 r.1.floor], .agg #[.int .i64 0, .int .i64 cnt8, .slice B an d], .slice C m f])) W9 from fun W9 hk hb => by
        obtain ⟨A9, c9, e9, hs9⟩ := (HW8.out.rows.keeps hk (by decide) (by decide) (by decide)).sers
        cases e9
        obtain ⟨B9, d9, e9, hb9⟩ := (HRA.out.keeps hk (by decide) (by decide) (by decide)).sers_in han
        cases e9
        obtain ⟨C9, f9, e9, hc9⟩ := (HOR.out.keeps hk (by decide) (by decide)).recs_in hm
        cases e9
        exact ⟨A8, n8, c8, q8, B, an, d, aq, C, m, f, rr, by rw [HER.out, hcnt], hs9, HS8.out, hb9, HSA.out, hc9, HRCL.out, hb, (HW8.out.rows.keeps hk (by decide) (by decide) (by decide)).from_ HB4.out.size, (HOR.out.keeps hk (by decide) (by decide)).from_ HB4.out.size, HRA.out.cap⟩)
      rw [herr]
      clear herr hra hsa hor hrl hcnt
      go_wp2_with fail
      clear x0 x1
      have HRL := Lib.hid (fun W (h2 : Keeps [] w8 W) => res_laid (h2 _ _ HR8.out (fun _ _ _ _ h => by cases h)) (h2 _ _ HA8.out (fun _ _ _ _ h => by cases h)) (.slice A8 n8 c8) (.int .i64 r.1.floor) (.int .i64 0) (.int .i64 cnt8) (.slice B an d))
      have hbd : Below w8.heap.size w8 w8.drew := (Below.refl _ _).drew
      have HKD : Hid (Keeps [] w8 w8.drew) := Lib.hid (Keeps.below hbd)
      have HBW : Hid (Below w.heap.size w w8.drew) := Lib.hid (below_step (below_step HB4.out HW8.out.bel) hbd)
      have HKS : Hid (Keeps [28, 31] w8 w8.drew) := Lib.hid (Keeps.below hbd)
      refine plain_T (fun U => U.heap[b]? = some (.cells (workCells (.slice A8 n8 c8) r.1.floor (.map (some mb8)) (opCells o) gen 0 cnt8 (.slice B an d) (.slice C m f)) 70 (0, 0))) [] (by kernel_rfl) ?_
      have HBK := Lib.hid (heap_keep HW8.out.wk hbd)
      have HR9 := Lib.hid (heap_keep HR8.out hbd); have HA9 := Lib.hid (heap_keep HA8.out hbd)
      generalize w8.drew = wd at HKD HBW HKS HBK HR9 HA9 ⊢
      clear hbd
      have hbr : b ≠ w.heap.size + 2 ∧ b ≠ w.heap.size + 3 := by have := HZ4.out; omega
      have HBR := Lib.hid hbr
      clear hbr
      refine wpAnyT_pick (S := (fun U => U.heap[b]? = some (.cells (workCells (.slice A8 n8 c8) r.1.floor (.map (some mb8)) (opCells o) gen 0 cnt8 (.slice B an d) (.slice C m f)) 70 (0, 0)))) (by kernel_rfl) Only.panic Only.keepsIn (w := wd) HBK.out [0, 1, 2, 3, 4, 5, 6, 7, 8, 9, 10, 11] 3 _ _ (by kernel_rfl) ?_
      refine PickT.value (d := some 52) (.pointer (some ⟨b, 0, none⟩)) rfl rfl (by kernel_rfl) (fun U hU => (by go_simp)) ?_
      refine PickT.value (d := some 53) (.pointer (some ⟨b, 0, none⟩)) rfl rfl (by kernel_rfl) (fun U hU => (by go_simp)) ?_
      refine PickT.value (d := some 54) (.pointer (some ⟨b, 0, none⟩)) rfl rfl (by kernel_rfl) (fun U hU => (by go_simp)) ?_
      refine PickT.value (d := some 55) (.agg #[.slice A8 n8 c8, .int .i64 r.1.floor]) rfl rfl (by kernel_rfl) (fun U hU => (by have h0 : U.cell? ⟨b, 0, none⟩ = some (.slice A8 n8 c8) := cell_of_row _ _ _ _ _ _ hU; have h1 : U.cell? ⟨b, 1, none⟩ = some (.int .i64 r.1.floor) := cell_of_row _ _ _ _ _ _ hU; go_simp)) ?_
      refine PickT.value (d := some 56) (.pointer (some ⟨b, 0, none⟩)) rfl rfl (by kernel_rfl) (fun U hU => (by go_simp)) ?_
      refine PickT.value (d := some 57) (.pointer (some ⟨b, 0, none⟩)) rfl rfl (by kernel_rfl) (fun U hU => (by go_simp)) ?_
      refine PickT.value (d := some 58) (.pointer (some ⟨b, 11, none⟩)) rfl rfl (by kernel_rfl) (fun U hU => (by go_simp)) ?_
      refine PickT.value (d := some 59) (.agg #[.int .i64 0, .int .i64 cnt8, .slice B an d]) rfl rfl (by kernel_rfl) (fun U hU => (by have h0 : U.cell? ⟨b, 11, none⟩ = some (.int .i64 0) := cell_of_row _ _ _ _ _ _ hU; have h1 : U.cell? ⟨b, 12, none⟩ = some (.int .i64 cnt8) := cell_of_row _ _ _ _ _ _ hU; have h2 : U.cell? ⟨b, 13, none⟩ = some (.slice B an d) := cell_of_row _ _ _ _ _ _ hU; go_simp)) ?_
      refine PickT.value (d := some 60) (.pointer (some ⟨b, 0, none⟩)) rfl rfl (by kernel_rfl) (fun U hU => (by go_simp)) ?_
      refine PickT.value (d := some 61) (.pointer (some ⟨b, 0, none⟩)) rfl rfl (by kernel_rfl) (fun U hU => (by go_simp)) ?_
      refine PickT.value (d := some 62) (.pointer (some ⟨b, 14, none⟩)) rfl rfl (by kernel_rfl) (fun U hU => (by go_simp)) ?_
      refine PickT.value (d := some 63) (.slice C m f) rfl rfl (by kernel_rfl) (fun U hU => (by have h0 : U.cell? ⟨b, 14, none⟩ = some (.slice C m f) := cell_of_row _ _ _ _ _ _ hU; go_simp)) ?_
      simp only [PickT, Act.put, List.setIfInBounds_toArray, List.set_cons_zero, List.set_cons_succ]
      have p0 : wd.cell? ⟨w.heap.size + 2, 0, none⟩ = some (.slice none 0 0) := cell_of_row _ _ _ _ _ _ HR9.out
      have p1 : wd.cell? ⟨w.heap.size + 2, 1, none⟩ = some (.int .i64 0) := cell_of_row _ _ _ _ _ _ HR9.out
      have p2 : wd.cell? ⟨w.heap.size + 3, 0, none⟩ = some (.int .i64 0) := cell_of_row _ _ _ _ _ _ HA9.out
      have p3 : wd.cell? ⟨w.heap.size + 3, 1, none⟩ = some (.int .i64 0) := cell_of_row _ _ _ _ _ _ HA9.out
      have p4 : wd.cell? ⟨w.heap.size + 3, 2, none⟩ = some (.slice none 0 0) := cell_of_row _ _ _ _ _ _ HA9.out
      have g0 : wd.frozen? ⟨w.heap.size + 2, 0, none⟩ = false := frozen_of_row _ _ _ _ _ HR9.out
      have g1 : wd.frozen? ⟨w.heap.size + 2, 1, none⟩ = false := frozen_of_row _ _ _ _ _ HR9.out
      have g2 : wd.frozen? ⟨w.heap.size + 3, 0, none⟩ = false := frozen_of_row _ _ _ _ _ HA9.out
      have g3 : wd.frozen? ⟨w.heap.size + 3, 1, none⟩ = false := frozen_of_row _ _ _ _ _ HA9.out
      have g4 : wd.frozen? ⟨w.heap.size + 3, 2, none⟩ = false := frozen_of_row _ _ _ _ _ HA9.out
      refine wpAnyT_one (i := 12) (by kernel_rfl) rfl (by kernel_rfl) ?_
      intro K hK
      unfold Oper.wp
      go_simp
      have HBK2 : Hid (((wd.setCell ⟨w.heap.size + 2, 0, none⟩ (.slice A8 n8 c8)).setCell ⟨w.heap.size + 2, 1, none⟩ (.int .i64 r.1.floor)).heap[b]? = some (.cells (workCells (.slice A8 n8 c8) r.1.floor (.map (some mb8)) (opCells o) gen 0 cnt8 (.slice B an d) (.slice C m f)) 70 (0, 0))) := Lib.hid (((grown_trans (grown_setCell wd (w.heap.size + 2) 0 (.slice A8 n8 c8)) (grown_setCell _ (w.heap.size + 2) 1 (.int .i64 r.1.floor))).block b (Array.getElem?_eq_some_iff.1 HBK.out).1 (fun e => by cases e; exact HBR.out.1 rfl)).trans HBK.out)
      refine hK _ _ (fun _ => HBK2.out) ?_
      clear hK K
      refine wpAnyT_one (i := 13) (by kernel_rfl) rfl (by kernel_rfl) ?_
      intro K hK
      unfold Oper.wp
      go_simp
      have HBK3 : Hid ((((((wd.setCell ⟨w.heap.size + 2, 0, none⟩ (.slice A8 n8 c8)).setCell ⟨w.heap.size + 2, 1, none⟩ (.int .i64 r.1.floor)).setCell ⟨w.heap.size + 3, 0, none⟩ (.int .i64 0)).setCell ⟨w.heap.size + 3, 1, none⟩ (.int .i64 cnt8)).setCell ⟨w.heap.size + 3, 2, none⟩ (.slice B an d)).heap[b]? = some (.cells (workCells (.slice A8 n8 c8) r.1.floor (.map (some mb8)) (opCells o) gen 0 cnt8 (.slice B an d) (.slice C m f)) 70 (0, 0))) := Lib.hid (((grown_trans (grown_trans (grown_setCell ((wd.setCell ⟨w.heap.size + 2, 0, none⟩ (.slice A8 n8 c8)).setCell ⟨w.heap.size + 2, 1, none⟩ (.int .i64 r.1.floor)) (w.heap.size + 3) 0 (.int .i64 0)) (grown_setCell _ (w.heap.size + 3) 1 (.int .i64 cnt8))) (grown_setCell _ (w.heap.size + 3) 2 (.slice B an d))).block b (Array.getElem?_eq_some_iff.1 HBK2.out).1 (fun e => by cases e; exact HBR.out.2 rfl)).trans HBK2.out)
      refine hK _ _ (fun _ => HBK3.out) ?_
      clear hK K
      obtain ⟨k2, k3, kk, kb⟩ := HRL.out _ HKD.out
      have hfin := HFIN.out _ (HKS.out.trans kk) (kb w (by omega) (by omega) HBW.out)
      have r0 := cell_of_row _ _ 0 _ _ _ k2
      have r1 := cell_of_row _ _ 1 _ _ _ k2
      have r2 := cell_of_row _ _ 0 _ _ _ k3
      have r3 := cell_of_row _ _ 1 _ _ _ k3
      have r4 := cell_of_row _ _ 2 _ _ _ k3
      generalize hww : (((((wd.setCell ⟨w.heap.size + 2, 0, none⟩ (.slice A8 n8 c8)).setCell ⟨w.heap.size + 2, 1, none⟩ (.int .i64 r.1.floor)).setCell ⟨w.heap.size + 3, 0, none⟩ (.int .i64 0)).setCell ⟨w.heap.size + 3, 1, none⟩ (.int .i64 cnt8)).setCell ⟨w.heap.size + 3, 2, none⟩ (.slice B an d)) = ww at HBK3 k2 k3 kk kb hfin r0 r1 r2 r3 r4 ⊢
      clear hww k2 k3 kk kb
      refine wpAnyT_pick (S := (fun U => U.heap[b]? = some (.cells (workCells (.slice A8 n8 c8) r.1.floor (.map (some mb8)) (opCells o) gen 0 cnt8 (.slice B an d) (.slice C m f)) 70 (0, 0)))) (by kernel_rfl) Only.panic Only.keepsIn (w := ww) HBK3.out [14] 0 _ _ (by kernel_rfl) ?_
      refine PickT.value (d := some 8) (.slice C m f) rfl rfl (by kernel_rfl) (fun U hU => (by go_simp)) ?_
      simp only [PickT, Act.put, List.setIfInBounds_toArray, List.set_cons_zero, List.set_cons_succ]
      refine wpAnyT_done (by kernel_rfl) ?_ _
      refine Only.next ?_
      go_wp2_with fail
      refine bodyPost_ret (v := .tuple #[.agg #[.slice A8 n8 c8, .int .i64 r.1.floor], .agg #[.int .i64 0, .int .i64 cnt8, .slice B an d], .slice C m f]) (by simp [results, go_sem, r0, r1, r2, r3, r4]) rfl (by rw [← HQ.out]; exact hfin)
    · obtain ⟨e1, e2, e3⟩ := HERR.out herr
      have p0 : w8.cell? ⟨w.heap.size + 2, 0, none⟩ = some (.slice none 0 0) := cell_of_row _ _ _ _ _ _ HR8.out
      have p1 : w8.cell? ⟨w.heap.size + 2, 1, none⟩ = some (.int .i64 0) := cell_of_row _ _ _ _ _ _ HR8.out
      have p2 : w8.cell? ⟨w.heap.size + 3, 0, none⟩ = some (.int .i64 0) := cell_of_row _ _ _ _ _ _ HA8.out
      have p3 : w8.cell? ⟨w.heap.size + 3, 1, none⟩ = some (.int .i64 0) := cell_of_row _ _ _ _ _ _ HA8.out
      have p4 : w8.cell? ⟨w.heap.size + 3, 2, none⟩ = some (.slice none 0 0) := cell_of_row _ _ _ _ _ _ HA8.out
      have g0 : w8.frozen? ⟨w.heap.size + 2, 0, none⟩ = false := frozen_of_row _ _ _ _ _ HR8.out
      have g1 : w8.frozen? ⟨w.heap.size + 2, 1, none⟩ = false := frozen_of_row _ _ _ _ _ HR8.out
      have g2 : w8.frozen? ⟨w.heap.size + 3, 0, none⟩ = false := frozen_of_row _ _ _ _ _ HA8.out
      have g3 : w8.frozen? ⟨w.heap.size + 3, 1, none⟩ = false := frozen_of_row _ _ _ _ _ HA8.out
      have g4 : w8.frozen? ⟨w.heap.size + 3, 2, none⟩ = false := frozen_of_row _ _ _ _ _ HA8.out
      have HRL := Lib.hid (res_laid HR8.out HA8.out (.slice A8 n8 c8) (.int .i64 r.1.floor) (.int .i64 r.2.1.err) (.int .i64 0) (.slice none 0 0))
      have HFIN := Lib.hid (show ∀ W9 : World, Keeps [28, 31] w8 W9 → Below w.heap.size w W9 → DoEnd w r (.returned (.tuple #[.agg #[.slice A8 n8 c8, .int .i64 r.1.floor], .agg #[.int .i64 r.2.1.err, .int .i64 0, .slice none 0 0], .slice none 0 0])) W9 from fun W9 hk hb => by
        obtain ⟨A9, c9, e9, hs9⟩ := (HW8.out.rows.keeps hk (by decide) (by decide) (by decide)).sers
        cases e9
        refine ⟨A8, n8, c8, q8, none, 0, 0, q8, none, 0, 0, fun _ => rec2 0, by rw [e1], hs9, HS8.out, ⟨fun h => by omega, fun _ => ⟨rfl, rfl⟩, by omega, fun i hi => by omega⟩, by rw [e2]; rfl, ⟨fun h => by omega, fun _ => ⟨rfl, rfl⟩, by omega, fun i hi => by omega⟩, by rw [e3]; rfl, hb, (HW8.out.rows.keeps hk (by decide) (by decide) (by decide)).from_ HB4.out.size, ⟨World.ownsRow_nil _ _ _ _, fun i hi => by omega⟩, Nat.le_refl 0⟩)
      have hne : w.heap.size + 2 ≠ w.heap.size + 3 := by omega
      have hbw : Hid (Below w.heap.size w w8) := Lib.hid (below_step HB4.out HW8.out.bel)
      have q1 : (r.2.1.err == 0) = false := by simpa using herr
      have q2 : (r.2.1.err != 0) = true := by simpa using herr
      generalize r.2.1.err = er at *
      generalize r.1.floor = fr at *
      clear e1 e2 e3
      go_wp2_with fail
      obtain ⟨k2, k3, kk, kb⟩ := HRL.out
      have hfin := HFIN.out _ kk (kb w (by omega) (by omega) hbw.out)
      have r0 := cell_of_row _ _ 0 _ _ _ k2
      have r1 := cell_of_row _ _ 1 _ _ _ k2
      have r2 := cell_of_row _ _ 0 _ _ _ k3
      have r3 := cell_of_row _ _ 1 _ _ _ k3
      have r4 := cell_of_row _ _ 2 _ _ _ k3
      refine bodyPost_ret (v := .tuple #[.agg #[.slice A8 n8 c8, .int .i64 fr], .agg #[.int .i64 er, .int .i64 0, .slice none 0 0], .slice none 0 0]) (by simp [results, go_sem, r0, r1, r2, r3, r4]) rfl (by rw [← HQ.out]; exact hfin)
  · have HC := Lib.hid (ask_any HW7.out HOP.out hk)
    rw [← HRR.out] at HC
    have e0 := HE3.out
    have y0 := HY0.out
    rw [hk] at y0
    clear hk
    go_wp2_with fail
    refine HC.out.mono ?_; rintro e w8 ⟨rfl, v8, mb8, n8, q8, cnt8, ans8, recs8, hw8, hs8, hn8, hok⟩
    clear e0 y0
    obtain ⟨A8, c8, rfl, -⟩ := hw8.rows.sers
    have HW8 := Lib.hid hw8; have HS8 := Lib.hid hs8; have HOK := Lib.hid hok
    have HR8 := Lib.hid (heap_keep HR4.out hw8.bel)
    have HA8 := Lib.hid (heap_keep HA4.out hw8.bel)
    have x0 : w8.cell? ⟨b, 0, none⟩ = some (.slice A8 n8 c8) := cell_of_row _ _ _ _ _ _ hw8.wk
    have x1 : w8.cell? ⟨b, 1, none⟩ = some (.int .i64 r.1.floor) := cell_of_row _ _ _ _ _ _ hw8.wk
    clear hw8 hs8 hok
    by_cases herr : r.2.1.err = 0
    · have HER := Lib.hid herr
      obtain ⟨hcnt, ⟨an, aq, hra, hsa, han⟩, m, rr, hor, hrl, hm⟩ := HOK.out herr
      obtain ⟨B, d, rfl, -⟩ := hra.sers_in han
      obtain ⟨C, f, rfl, -⟩ := hor.recs_in hm
      have HRA := Lib.hid hra; have HSA := Lib.hid hsa; have HOR := Lib.hid hor; have HRCL := Lib.hid hrl
      have HFIN := Lib.hid (show ∀ W9 : World, Keeps [28, 31] w8 W9 → Below w.heap.size w W9 → DoEnd w r (.returned (.tuple #[.agg #[.slice A8 n8 c8, .int .i64 r.1.floor], .agg #[.int .i64 0, .int .i64 cnt8, .slice B an d], .slice C m f])) W9 from fun W9 hk hb => by
        obtain ⟨A9, c9, e9, hs9⟩ := (HW8.out.rows.keeps hk (by decide) (by decide) (by decide)).sers
        cases e9
        obtain ⟨B9, d9, e9, hb9⟩ := (HRA.out.keeps hk (by decide) (by decide) (by decide)).sers_in han
        cases e9
        obtain ⟨C9, f9, e9, hc9⟩ := (HOR.out.keeps hk (by decide) (by decide)).recs_in hm
        cases e9
        exact ⟨A8, n8, c8, q8, B, an, d, aq, C, m, f, rr, by rw [HER.out, hcnt], hs9, HS8.out, hb9, HSA.out, hc9, HRCL.out, hb, (HW8.out.rows.keeps hk (by decide) (by decide) (by decide)).from_ HB4.out.size, (HOR.out.keeps hk (by decide) (by decide)).from_ HB4.out.size, HRA.out.cap⟩)
      rw [herr]
      clear herr hra hsa hor hrl hcnt
      go_wp2_with fail
      clear x0 x1
      have HRL := Lib.hid (fun W (h2 : Keeps [] w8 W) => res_laid (h2 _ _ HR8.out (fun _ _ _ _ h => by cases h)) (h2 _ _ HA8.out (fun _ _ _ _ h => by cases h)) (.slice A8 n8 c8) (.int .i64 r.1.floor) (.int .i64 0) (.int .i64 cnt8) (.slice B an d))
      have hbd : Below w8.heap.size w8 w8.drew := (Below.refl _ _).drew
      have HKD : Hid (Keeps [] w8 w8.drew) := Lib.hid (Keeps.below hbd)
      have HBW : Hid (Below w.heap.size w w8.drew) := Lib.hid (below_step (below_step HB4.out HW8.out.bel) hbd)
      have HKS : Hid (Keeps [28, 31] w8 w8.drew) := Lib.hid (Keeps.below hbd)
      refine plain_T (fun U => U.heap[b]? = some (.cells (workCells (.slice A8 n8 c8) r.1.floor (.map (some mb8)) (opCells o) gen 0 cnt8 (.slice B an d) (.slice C m f)) 70 (0, 0))) [] (by kernel_rfl) ?_
      have HBK := Lib.hid (heap_keep HW8.out.wk hbd)
      have HR9 := Lib.hid (heap_keep HR8.out hbd); have HA9 := Lib.hid (heap_keep HA8.out hbd)
      generalize w8.drew = wd at HKD HBW HKS HBK HR9 HA9 ⊢
      clear hbd
      have hbr : b ≠ w.heap.size + 2 ∧ b ≠ w.heap.size + 3 := by have := HZ4.out; omega
      have HBR := Lib.hid hbr
      clear hbr
      refine wpAnyT_pick (S := (fun U => U.heap[b]? = some (.cells (workCells (.slice A8 n8 c8) r.1.floor (.map (some mb8)) (opCells o) gen 0 cnt8 (.slice B an d) (.slice C m f)) 70 (0, 0)))) (by kernel_rfl) Only.panic Only.keepsIn (w := wd) HBK.out [0, 1, 2, 3, 4, 5, 6, 7, 8, 9, 10, 11] 3 _ _ (by kernel_rfl) ?_
      refine PickT.value (d := some 52) (.pointer (some ⟨b, 0, none⟩)) rfl rfl (by kernel_rfl) (fun U hU => (by go_simp)) ?_
      refine PickT.value (d := some 53) (.pointer (some ⟨b, 0, none⟩)) rfl rfl (by kernel_rfl) (fun U hU => (by go_simp)) ?_
      refine PickT.value (d := some 54) (.pointer (some ⟨b, 0, none⟩)) rfl rfl (by kernel_rfl) (fun U hU => (by go_simp)) ?_
      refine PickT.value (d := some 55) (.agg #[.slice A8 n8 c8, .int .i64 r.1.floor]) rfl rfl (by kernel_rfl) (fun U hU => (by have h0 : U.cell? ⟨b, 0, none⟩ = some (.slice A8 n8 c8) := cell_of_row _ _ _ _ _ _ hU; have h1 : U.cell? ⟨b, 1, none⟩ = some (.int .i64 r.1.floor) := cell_of_row _ _ _ _ _ _ hU; go_simp)) ?_
      refine PickT.value (d := some 56) (.pointer (some ⟨b, 0, none⟩)) rfl rfl (by kernel_rfl) (fun U hU => (by go_simp)) ?_
      refine PickT.value (d := some 57) (.pointer (some ⟨b, 0, none⟩)) rfl rfl (by kernel_rfl) (fun U hU => (by go_simp)) ?_
      refine PickT.value (d := some 58) (.pointer (some ⟨b, 11, none⟩)) rfl rfl (by kernel_rfl) (fun U hU => (by go_simp)) ?_
      refine PickT.value (d := some 59) (.agg #[.int .i64 0, .int .i64 cnt8, .slice B an d]) rfl rfl (by kernel_rfl) (fun U hU => (by have h0 : U.cell? ⟨b, 11, none⟩ = some (.int .i64 0) := cell_of_row _ _ _ _ _ _ hU; have h1 : U.cell? ⟨b, 12, none⟩ = some (.int .i64 cnt8) := cell_of_row _ _ _ _ _ _ hU; have h2 : U.cell? ⟨b, 13, none⟩ = some (.slice B an d) := cell_of_row _ _ _ _ _ _ hU; go_simp)) ?_
      refine PickT.value (d := some 60) (.pointer (some ⟨b, 0, none⟩)) rfl rfl (by kernel_rfl) (fun U hU => (by go_simp)) ?_
      refine PickT.value (d := some 61) (.pointer (some ⟨b, 0, none⟩)) rfl rfl (by kernel_rfl) (fun U hU => (by go_simp)) ?_
      refine PickT.value (d := some 62) (.pointer (some ⟨b, 14, none⟩)) rfl rfl (by kernel_rfl) (fun U hU => (by go_simp)) ?_
      refine PickT.value (d := some 63) (.slice C m f) rfl rfl (by kernel_rfl) (fun U hU => (by have h0 : U.cell? ⟨b, 14, none⟩ = some (.slice C m f) := cell_of_row _ _ _ _ _ _ hU; go_simp)) ?_
      simp only [PickT, Act.put, List.setIfInBounds_toArray, List.set_cons_zero, List.set_cons_succ]
      have p0 : wd.cell? ⟨w.heap.size + 2, 0, none⟩ = some (.slice none 0 0) := cell_of_row _ _ _ _ _ _ HR9.out
      have p1 : wd.cell? ⟨w.heap.size + 2, 1, none⟩ = some (.int .i64 0) := cell_of_row _ _ _ _ _ _ HR9.out
      have p2 : wd.cell? ⟨w.heap.size + 3, 0, none⟩ = some (.int .i64 0) := cell_of_row _ _ _ _ _ _ HA9.out
      have p3 : wd.cell? ⟨w.heap.size + 3, 1, none⟩ = some (.int .i64 0) := cell_of_row _ _ _ _ _ _ HA9.out
      have p4 : wd.cell? ⟨w.heap.size + 3, 2, none⟩ = some (.slice none 0 0) := cell_of_row _ _ _ _ _ _ HA9.out
      have g0 : wd.frozen? ⟨w.heap.size + 2, 0, none⟩ = false := frozen_of_row _ _ _ _ _ HR9.out
      have g1 : wd.frozen? ⟨w.heap.size + 2, 1, none⟩ = false := frozen_of_row _ _ _ _ _ HR9.out
      have g2 : wd.frozen? ⟨w.heap.size + 3, 0, none⟩ = false := frozen_of_row _ _ _ _ _ HA9.out
      have g3 : wd.frozen? ⟨w.heap.size + 3, 1, none⟩ = false := frozen_of_row _ _ _ _ _ HA9.out
      have g4 : wd.frozen? ⟨w.heap.size + 3, 2, none⟩ = false := frozen_of_row _ _ _ _ _ HA9.out
      refine wpAnyT_one (i := 12) (by kernel_rfl) rfl (by kernel_rfl) ?_
      intro K hK
      unfold Oper.wp
      go_simp
      have HBK2 : Hid (((wd.setCell ⟨w.heap.size + 2, 0, none⟩ (.slice A8 n8 c8)).setCell ⟨w.heap.size + 2, 1, none⟩ (.int .i64 r.1.floor)).heap[b]? = some (.cells (workCells (.slice A8 n8 c8) r.1.floor (.map (some mb8)) (opCells o) gen 0 cnt8 (.slice B an d) (.slice C m f)) 70 (0, 0))) := Lib.hid (((grown_trans (grown_setCell wd (w.heap.size + 2) 0 (.slice A8 n8 c8)) (grown_setCell _ (w.heap.size + 2) 1 (.int .i64 r.1.floor))).block b (Array.getElem?_eq_some_iff.1 HBK.out).1 (fun e => by cases e; exact HBR.out.1 rfl)).trans HBK.out)
      refine hK _ _ (fun _ => HBK2.out) ?_
      clear hK K
      refine wpAnyT_one (i := 13) (by kernel_rfl) rfl (by kernel_rfl) ?_
      intro K hK
      unfold Oper.wp
      go_simp
      have HBK3 : Hid ((((((wd.setCell ⟨w.heap.size + 2, 0, none⟩ (.slice A8 n8 c8)).setCell ⟨w.heap.size + 2, 1, none⟩ (.int .i64 r.1.floor)).setCell ⟨w.heap.size + 3, 0, none⟩ (.int .i64 0)).setCell ⟨w.heap.size + 3, 1, none⟩ (.int .i64 cnt8)).setCell ⟨w.heap.size + 3, 2, none⟩ (.slice B an d)).heap[b]? = some (.cells (workCells (.slice A8 n8 c8) r.1.floor (.map (some mb8)) (opCells o) gen 0 cnt8 (.slice B an d) (.slice C m f)) 70 (0, 0))) := Lib.hid (((grown_trans (grown_trans (grown_setCell ((wd.setCell ⟨w.heap.size + 2, 0, none⟩ (.slice A8 n8 c8)).setCell ⟨w.heap.size + 2, 1, none⟩ (.int .i64 r.1.floor)) (w.heap.size + 3) 0 (.int .i64 0)) (grown_setCell _ (w.heap.size + 3) 1 (.int .i64 cnt8))) (grown_setCell _ (w.heap.size + 3) 2 (.slice B an d))).block b (Array.getElem?_eq_some_iff.1 HBK2.out).1 (fun e => by cases e; exact HBR.out.2 rfl)).trans HBK2.out)
      refine hK _ _ (fun _ => HBK3.out) ?_
      clear hK K
      obtain ⟨k2, k3, kk, kb⟩ := HRL.out _ HKD.out
      have hfin := HFIN.out _ (HKS.out.trans kk) (kb w (by omega) (by omega) HBW.out)
      have r0 := cell_of_row _ _ 0 _ _ _ k2
      have r1 := cell_of_row _ _ 1 _ _ _ k2
      have r2 := cell_of_row _ _ 0 _ _ _ k3
      have r3 := cell_of_row _ _ 1 _ _ _ k3
      have r4 := cell_of_row _ _ 2 _ _ _ k3
      generalize hww : (((((wd.setCell ⟨w.heap.size + 2, 0, none⟩ (.slice A8 n8 c8)).setCell ⟨w.heap.size + 2, 1, none⟩ (.int .i64 r.1.floor)).setCell ⟨w.heap.size + 3, 0, none⟩ (.int .i64 0)).setCell ⟨w.heap.size + 3, 1, none⟩ (.int .i64 cnt8)).setCell ⟨w.heap.size + 3, 2, none⟩ (.slice B an d)) = ww at HBK3 k2 k3 kk kb hfin r0 r1 r2 r3 r4 ⊢
      clear hww k2 k3 kk kb
      refine wpAnyT_pick (S := (fun U => U.heap[b]? = some (.cells (workCells (.slice A8 n8 c8) r.1.floor (.map (some mb8)) (opCells o) gen 0 cnt8 (.slice B an d) (.slice C m f)) 70 (0, 0)))) (by kernel_rfl) Only.panic Only.keepsIn (w := ww) HBK3.out [14] 0 _ _ (by kernel_rfl) ?_
      refine PickT.value (d := some 8) (.slice C m f) rfl rfl (by kernel_rfl) (fun U hU => (by go_simp)) ?_
      simp only [PickT, Act.put, List.setIfInBounds_toArray, List.set_cons_zero, List.set_cons_succ]
      refine wpAnyT_done (by kernel_rfl) ?_ _
      refine Only.next ?_
      go_wp2_with fail
      refine bodyPost_ret (v := .tuple #[.agg #[.slice A8 n8 c8, .int .i64 r.1.floor], .agg #[.int .i64 0, .int .i64 cnt8, .slice B an d], .slice C m f]) (by simp [results, go_sem, r0, r1, r2, r3, r4]) rfl (by rw [← HQ.out]; exact hfin)
    · obtain ⟨e1, e2, e3⟩ := HERR.out herr
      have p0 : w8.cell? ⟨w.heap.size + 2, 0, none⟩ = some (.slice none 0 0) := cell_of_row _ _ _ _ _ _ HR8.out
      have p1 : w8.cell? ⟨w.heap.size + 2, 1, none⟩ = some (.int .i64 0) := cell_of_row _ _ _ _ _ _ HR8.out
      have p2 : w8.cell? ⟨w.heap.size + 3, 0, none⟩ = some (.int .i64 0) := cell_of_row _ _ _ _ _ _ HA8.out
      have p3 : w8.cell? ⟨w.heap.size + 3, 1, none⟩ = some (.int .i64 0) := cell_of_row _ _ _ _ _ _ HA8.out
      have p4 : w8.cell? ⟨w.heap.size + 3, 2, none⟩ = some (.slice none 0 0) := cell_of_row _ _ _ _ _ _ HA8.out
      have g0 : w8.frozen? ⟨w.heap.size + 2, 0, none⟩ = false := frozen_of_row _ _ _ _ _ HR8.out
      have g1 : w8.frozen? ⟨w.heap.size + 2, 1, none⟩ = false := frozen_of_row _ _ _ _ _ HR8.out
      have g2 : w8.frozen? ⟨w.heap.size + 3, 0, none⟩ = false := frozen_of_row _ _ _ _ _ HA8.out
      have g3 : w8.frozen? ⟨w.heap.size + 3, 1, none⟩ = false := frozen_of_row _ _ _ _ _ HA8.out
      have g4 : w8.frozen? ⟨w.heap.size + 3, 2, none⟩ = false := frozen_of_row _ _ _ _ _ HA8.out
      have HRL := Lib.hid (res_laid HR8.out HA8.out (.slice A8 n8 c8) (.int .i64 r.1.floor) (.int .i64 r.2.1.err) (.int .i64 0) (.slice none 0 0))
      have HFIN := Lib.hid (show ∀ W9 : World, Keeps [28, 31] w8 W9 → Below w.heap.size w W9 → DoEnd w r (.returned (.tuple #[.agg #[.slice A8 n8 c8, .int .i64 r.1.floor], .agg #[.int .i64 r.2.1.err, .int .i64 0, .slice none 0 0], .slice none 0 0])) W9 from fun W9 hk hb => by
        obtain ⟨A9, c9, e9, hs9⟩ := (HW8.out.rows.keeps hk (by decide) (by decide) (by decide)).sers
        cases e9
        refine ⟨A8, n8, c8, q8, none, 0, 0, q8, none, 0, 0, fun _ => rec2 0, by rw [e1], hs9, HS8.out, ⟨fun h => by omega, fun _ => ⟨rfl, rfl⟩, by omega, fun i hi => by omega⟩, by rw [e2]; rfl, ⟨fun h => by omega, fun _ => ⟨rfl, rfl⟩, by omega, fun i hi => by omega⟩, by rw [e3]; rfl, hb, (HW8.out.rows.keeps hk (by decide) (by decide) (by decide)).from_ HB4.out.size, ⟨World.ownsRow_nil _ _ _ _, fun i hi => by omega⟩, Nat.le_refl 0⟩)
      have hne : w.heap.size + 2 ≠ w.heap.size + 3 := by omega
      have hbw : Hid (Below w.heap.size w w8) := Lib.hid (below_step HB4.out HW8.out.bel)
      have q1 : (r.2.1.err == 0) = false := by simpa using herr
      have q2 : (r.2.1.err != 0) = true := by simpa using herr
      generalize r.2.1.err = er at *
      generalize r.1.floor = fr at *
      clear e1 e2 e3
      go_wp2_with fail
      obtain ⟨k2, k3, kk, kb⟩ := HRL.out
      have hfin := HFIN.out _ kk (kb w (by omega) (by omega) hbw.out)
      have r0 := cell_of_row _ _ 0 _ _ _ k2
      have r1 := cell_of_row _ _ 1 _ _ _ k2
      have r2 := cell_of_row _ _ 0 _ _ _ k3
      have r3 := cell_of_row _ _ 1 _ _ _ k3
      have r4 := cell_of_row _ _ 2 _ _ _ k3
      refine bodyPost_ret (v := .tuple #[.agg #[.slice A8 n8 c8, .int .i64 fr], .agg #[.int .i64 er, .int .i64 0, .slice none 0 0], .slice none 0 0]) (by simp [results, go_sem, r0, r1, r2, r3, r4]) rfl (by rw [← HQ.out]; exact hfin)
  · have hru : r = (⟨sers q5 n, fl⟩, ⟨1, 0, []⟩, []) := by rw [HRR.out]; exact run_other _ _ _ _ hk
    obtain ⟨A8, c8, rfl, -⟩ := HW7.out.rows.sers
    have y0 := HY0.out
    have HR8 := Lib.hid (heap_keep HR4.out HW7.out.bel)
    have HA8 := Lib.hid (heap_keep HA4.out HW7.out.bel)
    have x0 : w7.cell? ⟨b, 0, none⟩ = some (.slice A8 n c8) := cell_of_row _ _ _ _ _ _ HW7.out.wk
    have x1 : w7.cell? ⟨b, 1, none⟩ = some (.int .i64 fl) := cell_of_row _ _ _ _ _ _ HW7.out.wk
    have p0 : w7.cell? ⟨w.heap.size + 2, 0, none⟩ = some (.slice none 0 0) := cell_of_row _ _ _ _ _ _ HR8.out
    have p1 : w7.cell? ⟨w.heap.size + 2, 1, none⟩ = some (.int .i64 0) := cell_of_row _ _ _ _ _ _ HR8.out
    have p2 : w7.cell? ⟨w.heap.size + 3, 0, none⟩ = some (.int .i64 0) := cell_of_row _ _ _ _ _ _ HA8.out
    have p3 : w7.cell? ⟨w.heap.size + 3, 1, none⟩ = some (.int .i64 0) := cell_of_row _ _ _ _ _ _ HA8.out
    have p4 : w7.cell? ⟨w.heap.size + 3, 2, none⟩ = some (.slice none 0 0) := cell_of_row _ _ _ _ _ _ HA8.out
    have g0 : w7.frozen? ⟨w.heap.size + 2, 0, none⟩ = false := frozen_of_row _ _ _ _ _ HR8.out
    have g1 : w7.frozen? ⟨w.heap.size + 2, 1, none⟩ = false := frozen_of_row _ _ _ _ _ HR8.out
    have g2 : w7.frozen? ⟨w.heap.size + 3, 0, none⟩ = false := frozen_of_row _ _ _ _ _ HA8.out
    have g3 : w7.frozen? ⟨w.heap.size + 3, 1, none⟩ = false := frozen_of_row _ _ _ _ _ HA8.out
    have g4 : w7.frozen? ⟨w.heap.size + 3, 2, none⟩ = false := frozen_of_row _ _ _ _ _ HA8.out
    have HRL := Lib.hid (res_laid HR8.out HA8.out (.slice A8 n c8) (.int .i64 fl) (.int .i64 1) (.int .i64 0) (.slice none 0 0))
    have HFIN := Lib.hid (show ∀ W9 : World, Keeps [28, 31] w7 W9 → Below w.heap.size w W9 → DoEnd w r (.returned (.tuple #[.agg #[.slice A8 n c8, .int .i64 fl], .agg #[.int .i64 1, .int .i64 0, .slice none 0 0], .slice none 0 0])) W9 from fun W9 hk hb => by
      obtain ⟨A9, c9, e9, hs9⟩ := (HW7.out.rows.keeps hk (by decide) (by decide) (by decide)).sers
      cases e9
      rw [hru]
      exact ⟨A8, n, c8, q5, none, 0, 0, q5, none, 0, 0, fun _ => rec2 0, rfl, hs9, rfl, ⟨fun h => by omega, fun _ => ⟨rfl, rfl⟩, by omega, fun i hi => by omega⟩, rfl, ⟨fun h => by omega, fun _ => ⟨rfl, rfl⟩, by omega, fun i hi => by omega⟩, rfl, hb, (HW7.out.rows.keeps hk (by decide) (by decide) (by decide)).from_ HB4.out.size, ⟨World.ownsRow_nil _ _ _ _, fun i hi => by omega⟩, Nat.le_refl 0⟩)
    have hbw : Hid (Below w.heap.size w w7) := Lib.hid (below_step HB4.out HW7.out.bel)
    have HRU := Lib.hid hru
    clear hru
    rcases hk with hk | hk
    · have d1 : decide ((0 : Int) ≤ o.kind) = false := decide_eq_false (by omega)
      clear hk
      go_wp2_with fail
      obtain ⟨k2, k3, kk, kb⟩ := HRL.out
      have hfin := HFIN.out _ kk (kb w (by omega) (by omega) hbw.out)
      have r0 := cell_of_row _ _ 0 _ _ _ k2
      have r1 := cell_of_row _ _ 1 _ _ _ k2
      have r2 := cell_of_row _ _ 0 _ _ _ k3
      have r3 := cell_of_row _ _ 1 _ _ _ k3
      have r4 := cell_of_row _ _ 2 _ _ _ k3
      refine bodyPost_ret (v := .tuple #[.agg #[.slice A8 n c8, .int .i64 fl], .agg #[.int .i64 1, .int .i64 0, .slice none 0 0], .slice none 0 0]) (by simp [results, go_sem, r0, r1, r2, r3, r4]) rfl (by rw [← HQ.out]; exact hfin)
    · have d1 : decide ((0 : Int) ≤ o.kind) = true := decide_eq_true (by omega)
      have d2 : decide (o.kind < (4 : Int)) = false := decide_eq_false (by omega)
      clear hk
      go_wp2_with fail
      obtain ⟨k2, k3, kk, kb⟩ := HRL.out
      have hfin := HFIN.out _ kk (kb w (by omega) (by omega) hbw.out)
      have r0 := cell_of_row _ _ 0 _ _ _ k2
      have r1 := cell_of_row _ _ 1 _ _ _ k2
      have r2 := cell_of_row _ _ 0 _ _ _ k3
      have r3 := cell_of_row _ _ 1 _ _ _ k3
      have r4 := cell_of_row _ _ 2 _ _ _ k3
      refine bodyPost_ret (v := .tuple #[.agg #[.slice A8 n c8, .int .i64 fl], .agg #[.int .i64 1, .int .i64 0, .slice none 0 0], .slice none 0 0]) (by simp [results, go_sem, r0, r1, r2, r3, r4]) rfl (by rw [← HQ.out]; exact hfin)
end Go.Proofs.Ytidfanmfibbiiaa
