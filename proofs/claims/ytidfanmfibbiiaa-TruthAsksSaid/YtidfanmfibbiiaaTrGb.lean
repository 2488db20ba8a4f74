import Derived.Test.YtidfanmfibbiiaaTrFb
import Derived.Test.YtidfanmfibbiiaaTrT
/-
  The example of the laws, as mathematics.
-/
namespace Go.Proofs.Ytidfanmfibbiiaa
open Go.RowKit
def L0 : List Lab := [(⟨#[97]⟩, ⟨#[120]⟩)]
def S1 : Tr.Stt (List Lab) := ⟨[⟨L0, [⟨1, 5⟩], 1⟩], 0⟩
def opA (v : Int) : Tr.Op (List Lab) (List Mat) := ⟨0, L0, [], 1, 0, v⟩
def opR : Tr.Op (List Lab) (List Mat) := ⟨2, [], [], 2, 0, 0⟩
def recA : Tr.Rec (List Lab) := ⟨0, L0, 1, 0, 5⟩
def recR : Tr.Rec (List Lab) := ⟨2, [], 2, 0, 0⟩

set_option maxRecDepth 100000 in
theorem ex1 : Tr.run par ⟨[], 0⟩ (opA 5) 3 = (S1, ⟨0, 1, []⟩, [recA]) := by kernel_rfl
set_option maxRecDepth 100000 in
theorem ex2 : Tr.run par S1 (opA 5) 3 = (S1, ⟨0, 0, []⟩, []) := by kernel_rfl
set_option maxRecDepth 100000 in
theorem ex3 : Tr.run par S1 (opA 6) 3 = (S1, ⟨5, 0, []⟩, []) := by kernel_rfl
set_option maxRecDepth 100000 in
theorem ex4 : Tr.apply par ⟨[], 0⟩ recA = (S1, true) := by kernel_rfl
set_option maxRecDepth 100000 in
theorem ex5 : Tr.run par S1 opR 3 = (⟨[], 2⟩, ⟨0, 1, []⟩, [recR]) := by kernel_rfl
set_option maxRecDepth 100000 in
theorem ex6 : Tr.all par S1 [recR, recR] = (⟨[], 2⟩, 1) := by kernel_rfl
set_option maxRecDepth 100000 in
theorem ex7 : Tr.Ok par S1 := by
  have h := Tr.ok_run par_good Tr.ok_empty (opA 5) 3
  rw [ex1] at h
  exact h
set_option maxRecDepth 100000 in
theorem ex8 : findI S1.ser L0 = 0 := by kernel_rfl
set_option maxRecDepth 100000 in
theorem ex9 : findI [] L0 = -1 := by kernel_rfl
theorem fits_sers {q : Nat → SerAt} {n : Nat} {S : List (Tr.Ser (List Lab))} (h : sers q n = S) (g : Int) : fitsB q n g = S.all (fun x => !par.long x.l g) := by
  rw [← h]
  unfold fitsB sers
  rw [List.all_map]
  congr 1
  funext i
  show _ = !par.long (La.listOf (q i).f (q i).ln) g
  rw [par_long]
  by_cases h : La.limit g < La.longest (q i).f (q i).ln
  · rw [decide_eq_true h, decide_eq_false (by omega)]; rfl
  · rw [decide_eq_false h, decide_eq_true (by omega)]; rfl
set_option maxRecDepth 100000 in
theorem ex10 : S1.ser.all (fun x => !par.long x.l 1) = true := by kernel_rfl
set_option maxRecDepth 100000 in
theorem ex11 : S1.ser.all (fun x => !par.long x.l 0) = false := by kernel_rfl
end Go.Proofs.Ytidfanmfibbiiaa
/-
  What works of the laws comes to.
-/
namespace Go.Proofs.Ytidfanmfibbiiaa
open Go.RowKit
/-- Do, where what it comes to is known -/
theorem Do_s (A : Option Addr) (n c : Nat) (q : Nat → SerAt) (fl gen : Int) (o : OpAt) (w : World) (hA : Sers w A n c q) (hn2 : n ≤ 900) (hs9 : ∀ i, i < n → (q i).sn ≤ 900) (ho : OpSm w o) {S : List (Tr.Ser (List Lab))} {fl2 er cn : Int} {L : List (Tr.Ser (List Lab))} {R : List (Tr.Rec (List Lab))} (h : Tr.run par ⟨sers q n, fl⟩ o.op gen = (⟨S, fl2⟩, ⟨er, cn, L⟩, R)) :
    Calls Try.prog 11 #[.agg #[.slice A n c, .int .i64 fl], .agg #[.int .i64 o.kind, .slice o.la o.ln o.lc, .slice o.ma o.mn o.mc, .int .i64 o.t, .int .i64 o.hi, .int .u64 o.v, .int .i64 o.gen], .int .i64 gen] w fun e w' =>
      ∃ (A : Option Addr) (n c : Nat) (q : Nat → SerAt) (B : Option Addr) (m d : Nat) (aq : Nat → SerAt) (C : Option Addr) (k f : Nat) (rr : Nat → RecAt),
        e = .returned (.tuple #[.agg #[.slice A n c, .int .i64 fl2], .agg #[.int .i64 er, .int .i64 cn, .slice B m d], .slice C k f]) ∧
        Sers w' A n c q ∧ sers q n = S ∧ Sers w' B m d aq ∧ sers aq m = L ∧ RecsIn w' C k f rr ∧ recsL rr k = R ∧ Below w.heap.size w w' := by
  have := Do_any A n c q fl gen o w hA hn2 hs9 ho
  rw [h] at this
  refine this.mono ?_
  rintro e w' ⟨A, n, c, q, B, m, d, aq, C, k, f, rr, h1, h2, h3, h4, h5, h6, h7, h8, -, -⟩
  exact ⟨A, n, c, q, B, m, d, aq, C, k, f, rr, h1, h2, h3, h4, h5, h6, h7, h8⟩
def f0 (_ : Nat) : Lab := (⟨#[97]⟩, ⟨#[120]⟩)
def oA (lb : Nat) (v : Int) : OpAt := ⟨0, some ⟨lb, 0, none⟩, 1, 1, f0, none, 0, 0, fun _ => ⟨0, ByteArray.empty, ByteArray.empty⟩, 1, 0, v, 0⟩
def oR : OpAt := ⟨2, none, 0, 0, f0, none, 0, 0, fun _ => ⟨0, ByteArray.empty, ByteArray.empty⟩, 2, 0, 0, 0⟩
theorem f0_row (w : World) (lb : Nat) (h : w.heap[lb]? = some (.cells #[.string ⟨#[97]⟩, .string ⟨#[120]⟩] 60 (0, 0))) : LabRow w (some ⟨lb, 0, none⟩) 1 f0 := LabRow.of_row (row_there 2 _ w lb _ _ _ h (fun j hj => by rcases (show j = 0 ∨ j = 1 by omega) with rfl | rfl <;> rfl))
theorem f0_size (i : Nat) : (f0 i).1.size ≤ 300 ∧ (f0 i).2.size ≤ 300 := ⟨(by decide : (ByteArray.size ⟨#[97]⟩) ≤ 300), (by decide : (ByteArray.size ⟨#[120]⟩) ≤ 300)⟩
theorem oA_sm (w : World) (lb : Nat) (v : Int) (h : w.heap[lb]? = some (.cells #[.string ⟨#[97]⟩, .string ⟨#[120]⟩] 60 (0, 0))) : OpSm w (oA lb v) := ⟨f0_row w lb h, fun e => (by cases e), (by decide : 1 ≤ 10), fun i _ => f0_size i, fun hn => absurd (show 0 < 0 from hn) (by omega), fun _ => ⟨rfl, rfl⟩, (by decide : 0 ≤ 10), fun i hi => absurd (show i < 0 from hi) (by omega)⟩
theorem oR_sm (w : World) : OpSm w oR := ⟨LabRow.of_row (fun hn => absurd (show 0 < 0 from hn) (by omega)), fun _ => ⟨rfl, rfl⟩, (by decide : 0 ≤ 10), fun i hi => absurd (show i < 0 from hi) (by omega), fun hn => absurd (show 0 < 0 from hn) (by omega), fun _ => ⟨rfl, rfl⟩, (by decide : 0 ≤ 10), fun i hi => absurd (show i < 0 from hi) (by omega)⟩
theorem no_sers (w : World) (q : Nat → SerAt) : Sers w none 0 0 q := ⟨fun h => absurd h (by omega), fun _ => ⟨rfl, rfl⟩, by omega, fun i hi => by omega⟩
/-- a state and an answer, laid behind each other -/
theorem two_laid (w : World) (x0 x1 y0 y1 y2 : Value) : Below w.heap.size w ((w.alloc (.cells #[x0, x1] 28)).alloc (.cells #[y0, y1, y2] 31)) ∧ ((w.alloc (.cells #[x0, x1] 28)).alloc (.cells #[y0, y1, y2] 31)).heap[w.heap.size]? = some (.cells #[x0, x1] 28 (0, 0)) ∧ ((w.alloc (.cells #[x0, x1] 28)).alloc (.cells #[y0, y1, y2] 31)).heap[w.heap.size + 1]? = some (.cells #[y0, y1, y2] 31 (0, 0)) :=
  ⟨((Below.refl _ _).alloc (Nat.le_refl _) _).alloc (by simp) _, heap_alloc2_old w _ _, heap_alloc2_new w _ _⟩
def q0 (_ : Nat) : SerAt := newS none 0 0 f0
theorem one_sn {q : Nat → SerAt} {n : Nat} (h : sers q n = S1.ser) : n = 1 ∧ ∀ i, i < n → (q i).sn ≤ 1 := by
  have h1 : n = 1 := by have := congrArg List.length h; rw [sers_length] at this; exact this
  exact ⟨h1, sn_of (by rw [h]; decide)⟩
theorem rcA (lb : Nat) : RecAt.rc ⟨0, some ⟨lb, 0, none⟩, 1, 1, f0, 1, 0, 5⟩ = recA := rfl
theorem rec2_in (w : World) : RecIn w (rec2 2) := ⟨LabRow.of_row (fun hn => absurd (show 0 < 0 from hn) (by omega)), fun _ => ⟨rfl, rfl⟩, fun i hi => absurd (show i < 0 from hi) (by omega), by decide⟩
theorem two_recs (w : World) (b : Nat) (h : w.heap[b]? = some (.cells #[.int .i64 2, .slice none 0 0, .int .i64 2, .int .i64 0, .int .u64 0, .int .i64 2, .slice none 0 0, .int .i64 2, .int .i64 0, .int .u64 0] 64 (0, 0))) : RecsIn w (some ⟨b, 0, none⟩) 2 2 (fun _ => rec2 2) :=
  ⟨fun _ => ⟨⟨b, 0, none⟩, rfl, (Array.getElem?_eq_some_iff.1 h).1, fun i hi j hj => by
    rw [Addr.add_lit, Nat.zero_add, cell_of_row _ _ _ _ _ _ h]
    rcases (show i = 0 ∨ i = 1 by omega) with rfl | rfl <;> rcases (show j = 0 ∨ j = 1 ∨ j = 2 ∨ j = 3 ∨ j = 4 by omega) with rfl | rfl | rfl | rfl | rfl <;> rfl⟩, fun e => (by cases e), by omega, fun i _ => rec2_in w⟩
set_option maxRecDepth 100000 in
set_option maxHeartbeats 8000000 in
theorem works_any (w : World) : Calls Try.prog 9 #[] w fun e w' => e = .returned (.bool true) ∧ Below w.heap.size w w' := by
  obtain ⟨wl, hwl⟩ : ∃ wl, wl = w.alloc (.cells #[.string ⟨#[97]⟩, .string ⟨#[120]⟩] 60) := ⟨_, rfl⟩
  obtain ⟨lb, hlb⟩ : ∃ lb, lb = w.heap.size := ⟨_, rfl⟩
  have hl0 : wl.heap[lb]? = some (.cells #[.string ⟨#[97]⟩, .string ⟨#[120]⟩] 60 (0, 0)) := by rw [hwl, hlb]; exact heap_alloc_new w _
  have HL0 := Lib.hid hl0
  have HBL : Hid (Below w.heap.size w wl) := Lib.hid (by rw [hwl]; exact (Below.refl _ _).alloc (Nat.le_refl _) _)
  have HD1 := Lib.hid (Do_s none 0 0 q0 0 3 (oA lb 5) wl (no_sers wl q0) (by decide) (fun i hi => by omega) (oA_sm wl lb 5 hl0) ex1)
  clear hl0
  go_enter Try.func9, Try.ntmps9
  go_wp2_with fail
  rw [← hwl, ← hlb]
  clear hwl hlb
  refine HD1.out.mono ?_; rintro e w1 ⟨A1, n1, c1, q1, B1, m1, d1, aq1, C1, k1, f1, rr1, rfl, hs1, hse1, -, -, -, hre1, hbel1⟩
  obtain ⟨hn1, hq1⟩ := one_sn hse1
  have hk1 : k1 = 1 := by have := congrArg List.length hre1; simpa [recsL] using this
  subst hn1
  subst hk1
  obtain ⟨hb1, hX1, hY1⟩ := two_laid w1 (.slice A1 1 c1) (.int .i64 0) (.int .i64 0) (.int .i64 1) (.slice B1 m1 d1)
  obtain ⟨W1, hW1⟩ : ∃ W1, W1 = (w1.alloc (.cells #[.slice A1 1 c1, .int .i64 0] 28)).alloc (.cells #[.int .i64 0, .int .i64 1, .slice B1 m1 d1] 31) := ⟨_, rfl⟩
  rw [← hW1] at hb1 hX1 hY1
  obtain ⟨b1, hbb1⟩ : ∃ b1, b1 = w1.heap.size := ⟨_, rfl⟩
  rw [← hbb1] at hX1 hY1
  have HX1 := Lib.hid hX1; have HY1 := Lib.hid hY1
  have HS1 := Lib.hid (hs1.later hb1)
  have HL1 := Lib.hid (heap_keep (heap_keep HL0.out hbel1) hb1)
  have HW1 : Hid (Below w.heap.size w W1) := Lib.hid (below_step (below_step HBL.out hbel1) hb1)
  have HQ1 := Lib.hid hse1
  have HSN1 : Hid (∀ i, i < 1 → (q1 i).sn ≤ 1) := Lib.hid hq1
  have HD2 := Lib.hid (Do_s A1 1 c1 q1 0 3 (oA lb 5) W1 HS1.out (by decide) (fun i hi => Nat.le_trans (HSN1.out i hi) (by decide)) (oA_sm W1 lb 5 HL1.out) (S := S1.ser) (fl2 := 0) (er := 0) (cn := 0) (L := []) (R := []) ((congrArg (fun l => Tr.run par ⟨l, 0⟩ (opA 5) 3) hse1).trans ex2))
  clear hs1 hse1 hre1 hbel1 hb1 hX1 hY1 hq1 HD1
  go_wp2_with fail
  rw [← hW1, ← hbb1]
  clear hW1 hbb1
  refine HD2.out.mono ?_; rintro e w2 ⟨A2, n2, c2, q2, B2, m2, d2, aq2, C2, k2, f2, rr2, rfl, -, -, -, -, -, hre2, hbel2⟩
  have hk2 : k2 = 0 := by have := congrArg List.length hre2; simpa [recsL] using this
  subst hk2
  obtain ⟨hb2, hX2, hY2⟩ := two_laid w2 (.slice A2 n2 c2) (.int .i64 0) (.int .i64 0) (.int .i64 0) (.slice B2 m2 d2)
  obtain ⟨W2, hW2⟩ : ∃ W2, W2 = (w2.alloc (.cells #[.slice A2 n2 c2, .int .i64 0] 28)).alloc (.cells #[.int .i64 0, .int .i64 0, .slice B2 m2 d2] 31) := ⟨_, rfl⟩
  rw [← hW2] at hb2 hX2 hY2
  obtain ⟨b2, hbb2⟩ : ∃ b2, b2 = w2.heap.size := ⟨_, rfl⟩
  rw [← hbb2] at hX2 hY2
  have HX2 := Lib.hid hX2; have HY2 := Lib.hid hY2
  have HB2 := Lib.hid (below_step hbel2 hb2)
  have HD3 := Lib.hid (Do_s A1 1 c1 q1 0 3 (oA lb 6) W2 (HS1.out.later HB2.out) (by decide) (fun i hi => Nat.le_trans (HSN1.out i hi) (by decide)) (oA_sm W2 lb 6 (heap_keep HL1.out HB2.out)) (S := S1.ser) (fl2 := 0) (er := 5) (cn := 0) (L := []) (R := []) ((congrArg (fun l => Tr.run par ⟨l, 0⟩ (opA 6) 3) HQ1.out).trans ex3))
  have hx12 := heap_keep HX1.out hbel2
  have s0 : w2.cell? ⟨b1, 0, none⟩ = some (.slice A1 1 c1) := cell_of_row _ _ _ _ _ _ hx12
  have s1 : w2.cell? ⟨b1, 1, none⟩ = some (.int .i64 0) := cell_of_row _ _ _ _ _ _ hx12
  have sl : b1 < w2.heap.size := (Array.getElem?_eq_some_iff.1 hx12).1
  clear hre2 hbel2 hb2 hX2 hY2 HD2 hx12
  go_wp2_with fail
  rw [← hW2, ← hbb2]
  clear hW2 hbb2 s0 s1 sl
  refine HD3.out.mono ?_; rintro e w3 ⟨A3, n3, c3, q3, B3, m3, d3, aq3, C3, k3, f3, rr3, rfl, -, -, -, -, -, -, hbel3⟩
  obtain ⟨hb3, hX3, hY3⟩ := two_laid w3 (.slice A3 n3 c3) (.int .i64 0) (.int .i64 5) (.int .i64 0) (.slice B3 m3 d3)
  obtain ⟨W3, hW3⟩ : ∃ W3, W3 = (w3.alloc (.cells #[.slice A3 n3 c3, .int .i64 0] 28)).alloc (.cells #[.int .i64 5, .int .i64 0, .slice B3 m3 d3] 31) := ⟨_, rfl⟩
  rw [← hW3] at hb3 hX3 hY3
  obtain ⟨b3, hbb3⟩ : ∃ b3, b3 = w3.heap.size := ⟨_, rfl⟩
  rw [← hbb3] at hX3 hY3
  have HX3 := Lib.hid hX3; have HY3 := Lib.hid hY3
  have HB3 := Lib.hid (below_step HB2.out (below_step hbel3 hb3))
  have HB23 := Lib.hid (below_step hbel3 hb3)
  have HD4 := Lib.hid (Apply_any none 0 0 q0 0 ⟨0, some ⟨lb, 0, none⟩, 1, 1, f0, 1, 0, 5⟩ W3 (no_sers W3 q0) (by decide) (fun i hi => by omega) ⟨f0_row W3 lb (heap_keep HL1.out HB3.out), fun e => (by cases e), fun i _ => f0_size i, (by decide : 1 ≤ 1000)⟩)
  clear hbel3 hb3 hX3 hY3 HD3
  go_wp2_with fail
  rw [← hW3, ← hbb3]
  clear hW3 hbb3
  refine HD4.out.mono ?_; rintro e w4 ⟨A4, n4, c4, q4, he4, hs4, hse4, hbel4⟩
  have h4 : Tr.apply par ⟨sers q0 0, 0⟩ (RecAt.rc ⟨0, some ⟨lb, 0, none⟩, 1, 1, f0, 1, 0, 5⟩) = (S1, true) := by rw [rcA]; exact ex4
  have hse4' : sers q4 n4 = S1.ser := by rw [h4] at hse4; exact hse4
  obtain ⟨hn4, -⟩ := one_sn hse4'
  subst hn4
  have he4' : e = .returned (.tuple #[.agg #[.slice A4 1 c4, .int .i64 0], .int .i64 0]) := by
    rw [he4, h4]
    rfl
  subst he4'
  obtain ⟨W4, hW4⟩ : ∃ W4, W4 = w4.alloc (.cells #[.slice A4 1 c4, .int .i64 0] 28) := ⟨_, rfl⟩
  obtain ⟨b4, hbb4⟩ : ∃ b4, b4 = w4.heap.size := ⟨_, rfl⟩
  have hb4 : Below w4.heap.size w4 W4 := by rw [hW4]; exact (Below.refl _ _).alloc (Nat.le_refl _) _
  have HX4 : Hid (W4.heap[b4]? = some (.cells #[.slice A4 1 c4, .int .i64 0] 28 (0, 0))) := Lib.hid (by rw [hW4, hbb4]; exact heap_alloc_new w4 _)
  have HB34 := Lib.hid (below_step hbel4 hb4)
  have HB4 := Lib.hid (below_step HB3.out HB34.out)
  have HS4 := Lib.hid (hs4.later hb4); have HQ4 := Lib.hid hse4'
  have HD5 := Lib.hid (Do_s A1 1 c1 q1 0 3 oR W4 (HS1.out.later HB4.out) (by decide) (fun i hi => Nat.le_trans (HSN1.out i hi) (by decide)) (oR_sm W4) (S := []) (fl2 := 2) (er := 0) (cn := 1) (L := []) (R := [recR]) ((congrArg (fun l => Tr.run par ⟨l, 0⟩ opR 3) HQ1.out).trans ex5))
  have hx14 := heap_keep (heap_keep HX1.out HB3.out) hbel4
  have s0 : w4.cell? ⟨b1, 0, none⟩ = some (.slice A1 1 c1) := cell_of_row _ _ _ _ _ _ hx14
  have s1 : w4.cell? ⟨b1, 1, none⟩ = some (.int .i64 0) := cell_of_row _ _ _ _ _ _ hx14
  have sl : b1 < w4.heap.size := (Array.getElem?_eq_some_iff.1 hx14).1
  clear he4 h4 hs4 hse4 hse4' hbel4 hb4 hx14 HD4
  go_wp2_with fail
  rw [← hW4, ← hbb4]
  clear hW4 hbb4 s0 s1 sl
  refine HD5.out.mono ?_; rintro e w5 ⟨A5, n5, c5, q5, B5, m5, d5, aq5, C5, k5, f5, rr5, rfl, hs5, hse5, -, -, -, -, hbel5⟩
  have hn5 : n5 = 0 := by have := congrArg List.length hse5; rw [sers_length] at this; exact this
  subst hn5
  obtain ⟨hb5, hX5, hY5⟩ := two_laid w5 (.slice A5 0 c5) (.int .i64 2) (.int .i64 0) (.int .i64 1) (.slice B5 m5 d5)
  obtain ⟨W5, hW5⟩ : ∃ W5, W5 = (w5.alloc (.cells #[.slice A5 0 c5, .int .i64 2] 28)).alloc (.cells #[.int .i64 0, .int .i64 1, .slice B5 m5 d5] 31) := ⟨_, rfl⟩
  rw [← hW5] at hb5 hX5 hY5
  obtain ⟨b5, hbb5⟩ : ∃ b5, b5 = w5.heap.size := ⟨_, rfl⟩
  rw [← hbb5] at hX5 hY5
  have HX5 := Lib.hid hX5; have HY5 := Lib.hid hY5
  have HB45 := Lib.hid (below_step hbel5 hb5)
  have HB5 := Lib.hid (below_step HB4.out HB45.out)
  have HS5 := Lib.hid (hs5.later hb5)
  have GX1 := Lib.hid (heap_keep HX1.out HB5.out)
  have GY1 := Lib.hid (heap_keep HY1.out HB5.out)
  have GY2 := Lib.hid (heap_keep HY2.out (below_step HB23.out (below_step HB34.out HB45.out)))
  have GY3 := Lib.hid (heap_keep HY3.out (below_step HB34.out HB45.out))
  have GX4 := Lib.hid (heap_keep HX4.out HB45.out)
  have z5 : W5.heap.size = b5 + 1 + 1 := by rw [hbb5, hW5]; simp
  obtain ⟨W7, hW7⟩ : ∃ W7, W7 = W5.alloc (.cells #[.int .i64 2, .slice none 0 0, .int .i64 2, .int .i64 0, .int .u64 0, .int .i64 2, .slice none 0 0, .int .i64 2, .int .i64 0, .int .u64 0] 64) := ⟨_, rfl⟩
  have hb7 : Below W5.heap.size W5 W7 := by rw [hW7]; exact (Below.refl _ _).alloc (Nat.le_refl _) _
  have HB7 := Lib.hid hb7
  have HD6 := Lib.hid (RAll_any A1 1 c1 q1 0 (some ⟨b5 + 1 + 1, 0, none⟩) 2 2 (fun _ => rec2 2) 800 W7 ((HS1.out.later HB5.out).later hb7) (by decide) (by decide) (fun i hi => Nat.le_trans (HSN1.out i hi) (by decide)) (two_recs W7 (b5 + 1 + 1) (by rw [← z5, hW7]; exact heap_alloc_new W5 _)))
  have hx15 := heap_keep (heap_keep HX1.out HB4.out) hbel5
  have s0 : w5.cell? ⟨b1, 0, none⟩ = some (.slice A1 1 c1) := cell_of_row _ _ _ _ _ _ hx15
  have s1 : w5.cell? ⟨b1, 1, none⟩ = some (.int .i64 0) := cell_of_row _ _ _ _ _ _ hx15
  have sl : b1 < w5.heap.size := (Array.getElem?_eq_some_iff.1 hx15).1
  clear hs5 hse5 hbel5 hb5 hX5 hY5 hb7 hx15 HD5
  go_wp2_with fail
  rw [← hW5, ← hbb5, ← hW7]
  clear hW7 s0 s1 sl
  refine HD6.out.mono ?_; rintro e w6 ⟨A6, n6, c6, q6, he6, hs6, hse6, hbel6⟩
  have h6 : Tr.all par ⟨sers q1 1, 0⟩ (recsL (fun _ => rec2 2) 2) = (⟨[], 2⟩, 1) := by rw [HQ1.out]; exact ex6
  rw [h6] at he6
  subst he6
  have HB56 := Lib.hid (below_step HB7.out hbel6)
  have hx16 := heap_keep GX1.out HB56.out
  have s0 : w6.cell? ⟨b1, 0, none⟩ = some (.slice A1 1 c1) := cell_of_row _ _ _ _ _ _ hx16
  have s1 : w6.cell? ⟨b1, 1, none⟩ = some (.int .i64 0) := cell_of_row _ _ _ _ _ _ hx16
  have sl : b1 < w6.heap.size := (Array.getElem?_eq_some_iff.1 hx16).1
  have a1 : w6.cell? ⟨b1 + 1, 1, none⟩ = some (.int .i64 1) := cell_of_row _ _ _ _ _ _ (heap_keep GY1.out HB56.out)
  have al : b1 + 1 < w6.heap.size := (Array.getElem?_eq_some_iff.1 (heap_keep GY1.out HB56.out)).1
  have e2 : w6.cell? ⟨b2 + 1, 0, none⟩ = some (.int .i64 0) := cell_of_row _ _ _ _ _ _ (heap_keep GY2.out HB56.out)
  have l2 : b2 + 1 < w6.heap.size := (Array.getElem?_eq_some_iff.1 (heap_keep GY2.out HB56.out)).1
  have e3 : w6.cell? ⟨b3 + 1, 0, none⟩ = some (.int .i64 5) := cell_of_row _ _ _ _ _ _ (heap_keep GY3.out HB56.out)
  have l3 : b3 + 1 < w6.heap.size := (Array.getElem?_eq_some_iff.1 (heap_keep GY3.out HB56.out)).1
  have t0 : w6.cell? ⟨b4, 0, none⟩ = some (.slice A4 1 c4) := cell_of_row _ _ _ _ _ _ (heap_keep GX4.out HB56.out)
  have t1 : w6.cell? ⟨b4, 1, none⟩ = some (.int .i64 0) := cell_of_row _ _ _ _ _ _ (heap_keep GX4.out HB56.out)
  have l4 : b4 < w6.heap.size := (Array.getElem?_eq_some_iff.1 (heap_keep GX4.out HB56.out)).1
  have u0 : w6.cell? ⟨b5, 0, none⟩ = some (.slice A5 0 c5) := cell_of_row _ _ _ _ _ _ (heap_keep HX5.out HB56.out)
  have u1 : w6.cell? ⟨b5, 1, none⟩ = some (.int .i64 2) := cell_of_row _ _ _ _ _ _ (heap_keep HX5.out HB56.out)
  have l5 : b5 < w6.heap.size := (Array.getElem?_eq_some_iff.1 (heap_keep HX5.out HB56.out)).1
  have d5' : w6.cell? ⟨b5 + 1, 1, none⟩ = some (.int .i64 1) := cell_of_row _ _ _ _ _ _ (heap_keep HY5.out HB56.out)
  have l6 : b5 + 1 < w6.heap.size := (Array.getElem?_eq_some_iff.1 (heap_keep HY5.out HB56.out)).1
  obtain ⟨W6, hW6⟩ : ∃ W6, W6 = w6.alloc (.cells #[.slice A6 n6 c6, .int .i64 2] 28) := ⟨_, rfl⟩
  have hb6 : Below w6.heap.size w6 W6 := by rw [hW6]; exact (Below.refl _ _).alloc (Nat.le_refl _) _
  have HB6 := Lib.hid (below_step HB56.out hb6)
  have HSM := Lib.hid (SSame_any A1 A4 1 1 c1 c4 q1 q4 0 0 W6 ((HS1.out.later HB5.out).later HB6.out) ((HS4.out.later HB45.out).later HB6.out) true ⟨fun _ => ⟨rfl, HQ1.out.trans HQ4.out.symm⟩, fun _ => rfl⟩)
  clear hs6 hse6 hbel6 h6 hb6 HD6 hx16 hW5 hbb5 z5
  go_wp2_with fail
  rw [← hW6]
  clear hW6
  refine HSM.out.mono ?_; rintro e v1 ⟨rfl, hv1⟩
  have HV1 := Lib.hid (below_step HB6.out hv1)
  clear hv1 s0 s1 sl a1 al e2 l2 e3 l3 t0 t1 l4 u0 u1 l5 d5' l6
  have hx17 := heap_keep GX1.out HV1.out
  have s0 : v1.cell? ⟨b1, 0, none⟩ = some (.slice A1 1 c1) := cell_of_row _ _ _ _ _ _ hx17
  have s1 : v1.cell? ⟨b1, 1, none⟩ = some (.int .i64 0) := cell_of_row _ _ _ _ _ _ hx17
  have sl : b1 < v1.heap.size := (Array.getElem?_eq_some_iff.1 hx17).1
  have a1 : v1.cell? ⟨b1 + 1, 1, none⟩ = some (.int .i64 1) := cell_of_row _ _ _ _ _ _ (heap_keep GY1.out HV1.out)
  have al : b1 + 1 < v1.heap.size := (Array.getElem?_eq_some_iff.1 (heap_keep GY1.out HV1.out)).1
  have e2 : v1.cell? ⟨b2 + 1, 0, none⟩ = some (.int .i64 0) := cell_of_row _ _ _ _ _ _ (heap_keep GY2.out HV1.out)
  have l2 : b2 + 1 < v1.heap.size := (Array.getElem?_eq_some_iff.1 (heap_keep GY2.out HV1.out)).1
  have e3 : v1.cell? ⟨b3 + 1, 0, none⟩ = some (.int .i64 5) := cell_of_row _ _ _ _ _ _ (heap_keep GY3.out HV1.out)
  have l3 : b3 + 1 < v1.heap.size := (Array.getElem?_eq_some_iff.1 (heap_keep GY3.out HV1.out)).1
  have t0 : v1.cell? ⟨b4, 0, none⟩ = some (.slice A4 1 c4) := cell_of_row _ _ _ _ _ _ (heap_keep GX4.out HV1.out)
  have t1 : v1.cell? ⟨b4, 1, none⟩ = some (.int .i64 0) := cell_of_row _ _ _ _ _ _ (heap_keep GX4.out HV1.out)
  have l4 : b4 < v1.heap.size := (Array.getElem?_eq_some_iff.1 (heap_keep GX4.out HV1.out)).1
  have u0 : v1.cell? ⟨b5, 0, none⟩ = some (.slice A5 0 c5) := cell_of_row _ _ _ _ _ _ (heap_keep HX5.out HV1.out)
  have u1 : v1.cell? ⟨b5, 1, none⟩ = some (.int .i64 2) := cell_of_row _ _ _ _ _ _ (heap_keep HX5.out HV1.out)
  have l5 : b5 < v1.heap.size := (Array.getElem?_eq_some_iff.1 (heap_keep HX5.out HV1.out)).1
  have d5' : v1.cell? ⟨b5 + 1, 1, none⟩ = some (.int .i64 1) := cell_of_row _ _ _ _ _ _ (heap_keep HY5.out HV1.out)
  have l6 : b5 + 1 < v1.heap.size := (Array.getElem?_eq_some_iff.1 (heap_keep HY5.out HV1.out)).1
  have HVA := Lib.hid (Valid_yes A1 1 c1 q1 0 v1 ((HS1.out.later HB5.out).later HV1.out) (by rw [HQ1.out]; exact ex7))
  clear hx17
  go_wp2_with fail
  refine HVA.out.mono ?_; rintro e v2 ⟨rfl, hv2⟩
  have HV2 := Lib.hid (below_step HV1.out hv2)
  clear hv2 HVA s0 s1 sl a1 al e2 l2 e3 l3 t0 t1 l4 u0 u1 l5 d5' l6
  have hx18 := heap_keep GX1.out HV2.out
  have s0 : v2.cell? ⟨b1, 0, none⟩ = some (.slice A1 1 c1) := cell_of_row _ _ _ _ _ _ hx18
  have s1 : v2.cell? ⟨b1, 1, none⟩ = some (.int .i64 0) := cell_of_row _ _ _ _ _ _ hx18
  have sl : b1 < v2.heap.size := (Array.getElem?_eq_some_iff.1 hx18).1
  have a1 : v2.cell? ⟨b1 + 1, 1, none⟩ = some (.int .i64 1) := cell_of_row _ _ _ _ _ _ (heap_keep GY1.out HV2.out)
  have al : b1 + 1 < v2.heap.size := (Array.getElem?_eq_some_iff.1 (heap_keep GY1.out HV2.out)).1
  have e2 : v2.cell? ⟨b2 + 1, 0, none⟩ = some (.int .i64 0) := cell_of_row _ _ _ _ _ _ (heap_keep GY2.out HV2.out)
  have l2 : b2 + 1 < v2.heap.size := (Array.getElem?_eq_some_iff.1 (heap_keep GY2.out HV2.out)).1
  have e3 : v2.cell? ⟨b3 + 1, 0, none⟩ = some (.int .i64 5) := cell_of_row _ _ _ _ _ _ (heap_keep GY3.out HV2.out)
  have l3 : b3 + 1 < v2.heap.size := (Array.getElem?_eq_some_iff.1 (heap_keep GY3.out HV2.out)).1
  have t0 : v2.cell? ⟨b4, 0, none⟩ = some (.slice A4 1 c4) := cell_of_row _ _ _ _ _ _ (heap_keep GX4.out HV2.out)
  have t1 : v2.cell? ⟨b4, 1, none⟩ = some (.int .i64 0) := cell_of_row _ _ _ _ _ _ (heap_keep GX4.out HV2.out)
  have l4 : b4 < v2.heap.size := (Array.getElem?_eq_some_iff.1 (heap_keep GX4.out HV2.out)).1
  have u0 : v2.cell? ⟨b5, 0, none⟩ = some (.slice A5 0 c5) := cell_of_row _ _ _ _ _ _ (heap_keep HX5.out HV2.out)
  have u1 : v2.cell? ⟨b5, 1, none⟩ = some (.int .i64 2) := cell_of_row _ _ _ _ _ _ (heap_keep HX5.out HV2.out)
  have l5 : b5 < v2.heap.size := (Array.getElem?_eq_some_iff.1 (heap_keep HX5.out HV2.out)).1
  have d5' : v2.cell? ⟨b5 + 1, 1, none⟩ = some (.int .i64 1) := cell_of_row _ _ _ _ _ _ (heap_keep HY5.out HV2.out)
  have l6 : b5 + 1 < v2.heap.size := (Array.getElem?_eq_some_iff.1 (heap_keep HY5.out HV2.out)).1
  have HFA := Lib.hid (SFind_any A1 1 c1 q1 0 (some ⟨lb, 0, none⟩) 1 1 (fun e => by cases e) f0 (fun i _ => f0_size i) v2 ((HS1.out.later HB5.out).later HV2.out) (f0_row v2 lb (heap_keep (heap_keep HL1.out HB5.out) HV2.out)))
  have hfa : findI (sers q1 1) (La.listOf f0 1) = 0 := by rw [HQ1.out]; exact ex8
  rw [hfa] at HFA
  clear hx18 hfa
  go_wp2_with fail
  refine HFA.out.mono ?_; rintro e v3 ⟨rfl, hv3⟩
  have HV3 := Lib.hid (below_step HV2.out hv3)
  clear hv3 HFA s0 s1 sl a1 al e2 l2 e3 l3 t0 t1 l4 u0 u1 l5 d5' l6
  have hx19 := heap_keep GX1.out HV3.out
  have s0 : v3.cell? ⟨b1, 0, none⟩ = some (.slice A1 1 c1) := cell_of_row _ _ _ _ _ _ hx19
  have s1 : v3.cell? ⟨b1, 1, none⟩ = some (.int .i64 0) := cell_of_row _ _ _ _ _ _ hx19
  have sl : b1 < v3.heap.size := (Array.getElem?_eq_some_iff.1 hx19).1
  have a1 : v3.cell? ⟨b1 + 1, 1, none⟩ = some (.int .i64 1) := cell_of_row _ _ _ _ _ _ (heap_keep GY1.out HV3.out)
  have al : b1 + 1 < v3.heap.size := (Array.getElem?_eq_some_iff.1 (heap_keep GY1.out HV3.out)).1
  have e2 : v3.cell? ⟨b2 + 1, 0, none⟩ = some (.int .i64 0) := cell_of_row _ _ _ _ _ _ (heap_keep GY2.out HV3.out)
  have l2 : b2 + 1 < v3.heap.size := (Array.getElem?_eq_some_iff.1 (heap_keep GY2.out HV3.out)).1
  have e3 : v3.cell? ⟨b3 + 1, 0, none⟩ = some (.int .i64 5) := cell_of_row _ _ _ _ _ _ (heap_keep GY3.out HV3.out)
  have l3 : b3 + 1 < v3.heap.size := (Array.getElem?_eq_some_iff.1 (heap_keep GY3.out HV3.out)).1
  have t0 : v3.cell? ⟨b4, 0, none⟩ = some (.slice A4 1 c4) := cell_of_row _ _ _ _ _ _ (heap_keep GX4.out HV3.out)
  have t1 : v3.cell? ⟨b4, 1, none⟩ = some (.int .i64 0) := cell_of_row _ _ _ _ _ _ (heap_keep GX4.out HV3.out)
  have l4 : b4 < v3.heap.size := (Array.getElem?_eq_some_iff.1 (heap_keep GX4.out HV3.out)).1
  have u0 : v3.cell? ⟨b5, 0, none⟩ = some (.slice A5 0 c5) := cell_of_row _ _ _ _ _ _ (heap_keep HX5.out HV3.out)
  have u1 : v3.cell? ⟨b5, 1, none⟩ = some (.int .i64 2) := cell_of_row _ _ _ _ _ _ (heap_keep HX5.out HV3.out)
  have l5 : b5 < v3.heap.size := (Array.getElem?_eq_some_iff.1 (heap_keep HX5.out HV3.out)).1
  have d5' : v3.cell? ⟨b5 + 1, 1, none⟩ = some (.int .i64 1) := cell_of_row _ _ _ _ _ _ (heap_keep HY5.out HV3.out)
  have l6 : b5 + 1 < v3.heap.size := (Array.getElem?_eq_some_iff.1 (heap_keep HY5.out HV3.out)).1
  have HFB := Lib.hid (SFind_any A5 0 c5 q5 2 (some ⟨lb, 0, none⟩) 1 1 (fun e => by cases e) f0 (fun i _ => f0_size i) v3 (HS5.out.later HV3.out) (f0_row v3 lb (heap_keep (heap_keep HL1.out HB5.out) HV3.out)))
  have hfb : findI (sers q5 0) (La.listOf f0 1) = -1 := ex9
  rw [hfb] at HFB
  clear hx19 hfb
  go_wp2_with fail
  refine HFB.out.mono ?_; rintro e v4 ⟨rfl, hv4⟩
  have HV4 := Lib.hid (below_step HV3.out hv4)
  clear hv4 HFB s0 s1 sl a1 al e2 l2 e3 l3 t0 t1 l4 u0 u1 l5 d5' l6
  have hx20 := heap_keep GX1.out HV4.out
  have s0 : v4.cell? ⟨b1, 0, none⟩ = some (.slice A1 1 c1) := cell_of_row _ _ _ _ _ _ hx20
  have s1 : v4.cell? ⟨b1, 1, none⟩ = some (.int .i64 0) := cell_of_row _ _ _ _ _ _ hx20
  have sl : b1 < v4.heap.size := (Array.getElem?_eq_some_iff.1 hx20).1
  have a1 : v4.cell? ⟨b1 + 1, 1, none⟩ = some (.int .i64 1) := cell_of_row _ _ _ _ _ _ (heap_keep GY1.out HV4.out)
  have al : b1 + 1 < v4.heap.size := (Array.getElem?_eq_some_iff.1 (heap_keep GY1.out HV4.out)).1
  have e2 : v4.cell? ⟨b2 + 1, 0, none⟩ = some (.int .i64 0) := cell_of_row _ _ _ _ _ _ (heap_keep GY2.out HV4.out)
  have l2 : b2 + 1 < v4.heap.size := (Array.getElem?_eq_some_iff.1 (heap_keep GY2.out HV4.out)).1
  have e3 : v4.cell? ⟨b3 + 1, 0, none⟩ = some (.int .i64 5) := cell_of_row _ _ _ _ _ _ (heap_keep GY3.out HV4.out)
  have l3 : b3 + 1 < v4.heap.size := (Array.getElem?_eq_some_iff.1 (heap_keep GY3.out HV4.out)).1
  have t0 : v4.cell? ⟨b4, 0, none⟩ = some (.slice A4 1 c4) := cell_of_row _ _ _ _ _ _ (heap_keep GX4.out HV4.out)
  have t1 : v4.cell? ⟨b4, 1, none⟩ = some (.int .i64 0) := cell_of_row _ _ _ _ _ _ (heap_keep GX4.out HV4.out)
  have l4 : b4 < v4.heap.size := (Array.getElem?_eq_some_iff.1 (heap_keep GX4.out HV4.out)).1
  have u0 : v4.cell? ⟨b5, 0, none⟩ = some (.slice A5 0 c5) := cell_of_row _ _ _ _ _ _ (heap_keep HX5.out HV4.out)
  have u1 : v4.cell? ⟨b5, 1, none⟩ = some (.int .i64 2) := cell_of_row _ _ _ _ _ _ (heap_keep HX5.out HV4.out)
  have l5 : b5 < v4.heap.size := (Array.getElem?_eq_some_iff.1 (heap_keep HX5.out HV4.out)).1
  have d5' : v4.cell? ⟨b5 + 1, 1, none⟩ = some (.int .i64 1) := cell_of_row _ _ _ _ _ _ (heap_keep HY5.out HV4.out)
  have l6 : b5 + 1 < v4.heap.size := (Array.getElem?_eq_some_iff.1 (heap_keep HY5.out HV4.out)).1
  have HFC := Lib.hid (Fits_state A1 1 c1 q1 0 1 v4 ((HS1.out.later HB5.out).later HV4.out))
  have hfc : fitsB q1 1 1 = true := (fits_sers HQ1.out 1).trans ex10
  rw [hfc] at HFC
  clear hx20 hfc
  go_wp2_with fail
  refine HFC.out.mono ?_; rintro e v5 ⟨rfl, hv5⟩
  have HV5 := Lib.hid (below_step HV4.out hv5)
  clear hv5 HFC s0 s1 sl a1 al e2 l2 e3 l3 t0 t1 l4 u0 u1 l5 d5' l6
  have hx21 := heap_keep GX1.out HV5.out
  have s0 : v5.cell? ⟨b1, 0, none⟩ = some (.slice A1 1 c1) := cell_of_row _ _ _ _ _ _ hx21
  have s1 : v5.cell? ⟨b1, 1, none⟩ = some (.int .i64 0) := cell_of_row _ _ _ _ _ _ hx21
  have sl : b1 < v5.heap.size := (Array.getElem?_eq_some_iff.1 hx21).1
  have HFD := Lib.hid (Fits_state A1 1 c1 q1 0 0 v5 ((HS1.out.later HB5.out).later HV5.out))
  have hfd : fitsB q1 1 0 = false := (fits_sers HQ1.out 0).trans ex11
  rw [hfd] at HFD
  clear hx21 hfd
  go_wp2_with fail
  refine HFD.out.mono ?_; rintro e v6 ⟨rfl, hv6⟩
  have HFIN : Hid (Below w.heap.size w v6) := Lib.hid (below_step HW1.out (below_step HB5.out (below_step HV5.out hv6)))
  clear hv6 HFD s0 s1 sl
  go_wp2_with fail
  go_ret
  exact ⟨rfl, HFIN.out⟩
end Go.Proofs.Ytidfanmfibbiiaa
