import Derived.Test.YtfibapfehgglhaaGreatDoorPjD
/-
  A new store is made: create.
-/
namespace Go.Proofs.YtfibapfehgglhaaGreatDoor
open Go.RowKit
open Pj
set_option maxRecDepth 100000 in
set_option maxHeartbeats 4000000 in
theorem create_any {W : World} {base fb B N : Nat} {wr : World} (hE : Env W) (h : Runs W base fb B N (Sf.St.new 10000) wr) (hN : N ≤ 500) (hB : B ≤ 1000000) :
    Calls Tryz.prog 15 #[.pointer (some ⟨fb, 0, none⟩), .int .i64 3] wr fun e w' => ∃ bs S, e = .returned (.tuple #[.pointer (some ⟨bs, 0, none⟩), .int .i64 0]) ∧ Runs W base fb (B + 900) (N + 210) S w' ∧ Made S ∧ Moves wr w' := by
  have hmf := run_make_func
  obtain ⟨w1, hw1⟩ : ∃ w1, w1 = wr.alloc (.cells #[.pointer (some ⟨fb, 0, none⟩)] 28) := ⟨_, rfl⟩
  obtain ⟨bf, hbf⟩ : ∃ bf, bf = wr.heap.size := ⟨_, rfl⟩
  have hb1 : Below wr.heap.size wr w1 := by rw [hw1]; exact (Below.refl _ _).alloc (Nat.le_refl _) _
  have hx1 : w1.heap[bf]? = some (.cells #[.pointer (some ⟨fb, 0, none⟩)] 28 (0, 0)) := by rw [hw1, hbf]; exact heap_alloc_new wr _
  have HX1 := Lib.hid hx1; have HB1 := Lib.hid hb1
  have HR := Lib.hid h
  clear h hb1 hx1
  go_enter Tryz.func15, Tryz.ntmps15
  go_upto_region 1 with fail
  rw [← hw1, ← hbf]
  clear hw1
  have HBF := Lib.hid hbf
  clear hbf
  go_wp2_with fail
  refine (Begin3_any _).mono ?_; rintro e w2 ⟨rfl, hb2⟩
  obtain ⟨w3, hw3⟩ : ∃ w3, w3 = (w2.alloc (.cells #[.string wB] 9)).alloc (.cells #[.int .i64 3, .slice none 0 0] 60) := ⟨_, rfl⟩
  obtain ⟨bh, hbh⟩ : ∃ bh, bh = w2.heap.size := ⟨_, rfl⟩
  have hb3 : Below w2.heap.size w2 w3 := by rw [hw3]; exact ((Below.refl _ _).alloc (Nat.le_refl _) _).alloc (by simp) _
  have hx3 : w3.heap[bh]? = some (.cells #[.string wB] 9 (0, 0)) := by rw [hw3, hbh]; exact heap_alloc2_old w2 _ _
  have hy3 : w3.heap[bh + 1]? = some (.cells #[.int .i64 3, .slice none 0 0] 60 (0, 0)) := by rw [hw3, hbh]; exact heap_alloc2_new w2 _ _
  have HX3 := Lib.hid hx3; have HB3 := Lib.hid (below_step hb2 hb3)
  have hxf := heap_keep HX1.out HB3.out
  have HXF := Lib.hid hxf
  have y0 := cell_of_row _ _ 0 _ _ _ hxf; have y1 := cell_of_row _ _ 0 _ _ _ hy3; have y2 := cell_of_row _ _ 1 _ _ _ hy3
  simp only [List.getElem?_toArray, List.getElem?_cons_zero, List.getElem?_cons_succ] at y0 y1 y2
  clear hb2 hb3 hx3 hy3 hxf
  go_upto_region 4 with fail
  rw [← hw3, ← hbh]
  clear hw3
  have HBH := Lib.hid hbh
  clear hbh
  obtain ⟨w4, hw4⟩ : ∃ w4, w4 = (w3.alloc (.cells #[.pointer (some ⟨fb, 0, none⟩), .int .i64 3, .int .i64 1, .int .i64 0, .slice none 0 0, .slice none 0 0, .int .i64 0, .slice none 0 0, .int .i64 0, .int .i64 3, .slice none 0 0] 68)).alloc (.cells #[.pointer (some ⟨w3.heap.size, 0, none⟩)] 30) := ⟨_, rfl⟩
  have hb4 : Below w3.heap.size w3 w4 := by rw [hw4]; exact ((Below.refl _ _).alloc (Nat.le_refl _) _).alloc (by simp) _
  have hs4 : w4.heap[w3.heap.size]? = some (.cells #[.pointer (some ⟨fb, 0, none⟩), .int .i64 3, .int .i64 1, .int .i64 0, .slice none 0 0, .slice none 0 0, .int .i64 0, .slice none 0 0, .int .i64 0, .int .i64 3, .slice none 0 0] 68 (0, 0)) := by rw [hw4]; exact heap_alloc2_old w3 _ _
  have hp4 : w4.heap[w3.heap.size + 1]? = some (.cells #[.pointer (some ⟨w3.heap.size, 0, none⟩)] 30 (0, 0)) := by rw [hw4]; exact heap_alloc2_new w3 _ _
  go_upto_region 5 with fail
  rw [← hw4]
  clear hw4 y0 y1 y2
  obtain ⟨bs, hbs⟩ : ∃ bs, bs = w3.heap.size := ⟨_, rfl⟩
  rw [← hbs] at hs4 hp4 ⊢
  have HB4 := Lib.hid (below_step HB1.out (below_step HB3.out hb4))
  have HCR : Hid (Cr w4 fb bf bh bs (bs + 1)) := Lib.hid ⟨heap_keep HXF.out hb4, heap_keep HX3.out hb4, hs4, hp4⟩
  have HP := Lib.hid hp4
  clear hb4 hs4 hp4 hbs
  obtain ⟨w5, hw5⟩ : ∃ w5, w5 = w4.alloc (.cells #[.func (.func 40) #[] #[.pointer (some ⟨bf, 0, none⟩)], .func (.func 41) #[] #[.pointer (some ⟨bf, 0, none⟩), .pointer (some ⟨bs + 1, 0, none⟩), .pointer (some ⟨bh, 0, none⟩)], .func (.func 43) #[] #[.pointer (some ⟨bf, 0, none⟩), .pointer (some ⟨bs + 1, 0, none⟩)]] 72) := ⟨_, rfl⟩
  have hb5 : Below w4.heap.size w4 w5 := by rw [hw5]; exact (Below.refl _ _).alloc (Nat.le_refl _) _
  have hx5 : w5.heap[w4.heap.size]? = some (.cells #[.func (.func 40) #[] #[.pointer (some ⟨bf, 0, none⟩)], .func (.func 41) #[] #[.pointer (some ⟨bf, 0, none⟩), .pointer (some ⟨bs + 1, 0, none⟩), .pointer (some ⟨bh, 0, none⟩)], .func (.func 43) #[] #[.pointer (some ⟨bf, 0, none⟩), .pointer (some ⟨bs + 1, 0, none⟩)]] 72 (0, 0)) := by rw [hw5]; exact heap_alloc_new w4 _
  go_wp2_with fail
  rw [← hw5]
  obtain ⟨sb, hsb⟩ : ∃ sb, sb = w4.heap.size := ⟨_, rfl⟩
  rw [← hsb] at hx5 ⊢
  have HX5 := Lib.hid hx5
  have h0 : At W w5 base fb B N bf bh bs (bs + 1) 0 w5 := ⟨HCR.out.moves (Moves.below hb5), Moves.refl _, Sf.St.new 10000, (HR.out.far (below_step HB4.out hb5)).mono (by omega) (by omega), rfl, rfl, by rw [if_pos rfl]⟩
  have HM5 := Lib.hid (Moves.below (below_step HB4.out hb5))
  clear hw5 hb5 hsb hx5
  refine (einOrder_any sb 3 3 (by decide) crFn (fun _ => #[]) (crCap bf bh (bs + 1)) (At W w5 base fb B N bf bh bs (bs + 1)) (fun _ _ => False) w5 h0 ?_ cr_ent ?_).mono ?_
  · intro i U hi hI
    have hU := hI.2.1.st.block HX5.out (by decide)
    rcases (show i = 0 ∨ i = 1 ∨ i = 2 by omega) with rfl | rfl | rfl <;> exact cell_of_row _ _ _ _ _ _ hU
  · intro i U hi hI
    rcases (show i = 0 ∨ i = 1 ∨ i = 2 by omega) with rfl | rfl | rfl
    · exact (create1_any hN hI).mono fun e V ⟨he, hv⟩ => ⟨0, he, by rw [if_pos rfl]; exact hv⟩
    · exact (create2_any hE hN hB hI).mono fun e V ⟨he, hv⟩ => ⟨0, he, by rw [if_pos rfl]; exact hv⟩
    · exact (create3_any hN hB hI).mono fun e V ⟨he, hv⟩ => ⟨0, he, by rw [if_pos rfl]; exact hv⟩
  rintro e w6 ⟨er, rfl, hend⟩
  have h00 : er = 0 := Classical.byContradiction fun h => by rw [if_neg h] at hend; exact hend
  subst h00
  rw [if_pos rfl] at hend
  obtain ⟨hcr, hmv, S, hrS, hfS, hroS, hSS⟩ := hend
  rw [if_neg (by decide), if_neg (by decide), if_neg (by decide)] at hSS
  have z0 := cell_of_row _ _ 0 _ _ _ hcr.p
  simp only [List.getElem?_toArray, List.getElem?_cons_zero] at z0
  have HF : Hid (Runs W base fb (B + 900) (N + 210) S w6 ∧ Made S ∧ Moves wr w6) := Lib.hid ⟨hrS, ⟨hSS, hfS, hroS⟩, HM5.out.trans hmv⟩
  clear hcr hmv hrS hfS hroS hSS
  go_wp2_with fail
  go_ret2
  exact ⟨bs, S, rfl, HF.out⟩
end Go.Proofs.YtfibapfehgglhaaGreatDoor
/-
  What Load answers with an error; what a new store's files begin with.
-/
namespace Go.Proofs.YtfibapfehgglhaaGreatDoor
open Go.RowKit
open Pj
theorem set_same {cs : Array Value} {j : Nat} {v : Value} (h : cs[j]? = some v) : cs.setIfInBounds j v = cs := by
  obtain ⟨hj, e⟩ := Array.getElem?_eq_some_iff.1 h
  apply Array.ext
  · simp
  · intro i h1 h2
    rw [Array.getElem_setIfInBounds]
    split
    · rename_i h; subst h; exact e.symm
    · rfl
theorem setCell_id {w : World} {b j : Nat} {cs : Array Value} {T : TypeId} {fr : Nat × Nat} {v : Value} (h : w.heap[b]? = some (.cells cs T fr)) (hv : cs[j]? = some v) : w.setCell ⟨b, j, none⟩ v = w := by
  obtain ⟨hb, e⟩ := Array.getElem?_eq_some_iff.1 h
  obtain ⟨hp, tp, dr, os, ou⟩ := w
  unfold World.setCell
  congr 1
  apply Array.ext
  · simp
  · intro i h1 h2
    rw [Array.getElem_modify]
    split
    · rename_i hi
      subst hi
      have e2 : hp[b] = .cells cs T fr := e
      rw [e2]
      show Obj.cells (cs.setIfInBounds j v) T fr = _
      rw [set_same hv]
    · rfl
theorem results_four_tmp {P : Program} {fn : Func} {p1 p2 p3 p4 t : Tmp} {t1 t2 t3 t4 : TypeId} (h : fn.results = #[.cell p1 t1, .cell p2 t2, .cell p3 t3, .cell p4 t4, .tmp t]) (tmps : Array Value) (w : World) (g1 g2 g3 g4 : Nat) (c1 c2 c3 c4 : Array Value) (u1 u2 u3 u4 : TypeId) (f1 f2 f3 f4 : Nat × Nat) (d1 d2 d3 d4 : TypeDesc)
    (a1 : tmps.getD p1 undef = .pointer (some ⟨g1, 0, none⟩)) (a2 : tmps.getD p2 undef = .pointer (some ⟨g2, 0, none⟩)) (a3 : tmps.getD p3 undef = .pointer (some ⟨g3, 0, none⟩)) (a4 : tmps.getD p4 undef = .pointer (some ⟨g4, 0, none⟩))
    (h1 : w.heap[g1]? = some (.cells c1 u1 f1)) (h2 : w.heap[g2]? = some (.cells c2 u2 f2)) (h3 : w.heap[g3]? = some (.cells c3 u3 f3)) (h4 : w.heap[g4]? = some (.cells c4 u4 f4))
    (k1 : P.underlying t1 = some d1) (k2 : P.underlying t2 = some d2) (k3 : P.underlying t3 = some d3) (k4 : P.underlying t4 = some d4)
    (e1 : (match d1 with | .struct _ | .array _ _ => true | _ => false) = true) (e2 : (match d2 with | .struct _ | .array _ _ => true | _ => false) = true) (e3 : (match d3 with | .struct _ | .array _ _ => true | _ => false) = true) (e4 : (match d4 with | .struct _ | .array _ _ => true | _ => false) = true)
    (i1 : (P.info? t1).map (·.size) = some c1.size) (i2 : (P.info? t2).map (·.size) = some c2.size) (i3 : (P.info? t3).map (·.size) = some c3.size) (i4 : (P.info? t4).map (·.size) = some c4.size) :
    (results fn tmps).run P w = .ok (.tuple #[.agg c1, .agg c2, .agg c3, .agg c4, tmps.getD t undef]) w := by
  have b1 : tmps[p1]?.getD undef = .pointer (some ⟨g1, 0, none⟩) := by simpa using a1
  have b2 : tmps[p2]?.getD undef = .pointer (some ⟨g2, 0, none⟩) := by simpa using a2
  have b3 : tmps[p3]?.getD undef = .pointer (some ⟨g3, 0, none⟩) := by simpa using a3
  have b4 : tmps[p4]?.getD undef = .pointer (some ⟨g4, 0, none⟩) := by simpa using a4
  simp [results, h, b1, b2, b3, b4, asAddr, run_loadVar_row w g1 u1 t1 c1 f1 d1 h1 k1 e1 i1, run_loadVar_row w g2 u2 t2 c2 f2 d2 h2 k2 e2 i2, run_loadVar_row w g3 u3 t3 c3 f3 d3 h3 k3 e3 i3, run_loadVar_row w g4 u4 t4 c4 f4 d4 h4 k4 e4 i4]
namespace Pj
def zM : Array Value := #[.int .i64 0, .int .i64 0, .int .i64 0, .slice none 0 0]
def zT : Array Value := #[.slice none 0 0, .int .i64 0]
def zS : Array Value := #[.int .i64 0, .slice none 0 0, .int .i64 0, .bool false, .int .i64 0, .slice none 0 0]
/-- four results, all zero -/
def Zeros (w : World) (b : Nat) : Prop := w.heap[b]? = some (.cells zM 54 (0, 0)) ∧ w.heap[b + 1]? = some (.cells zT 57 (0, 0)) ∧ w.heap[b + 2]? = some (.cells zT 57 (0, 0)) ∧ w.heap[b + 3]? = some (.cells zS 62 (0, 0))
def zeroV (er : Int) : Value := .tuple #[.agg zM, .agg zT, .agg zT, .agg zS, .int .i64 er]
def zeros (w : World) : World := (((w.alloc (.cells zM 54)).alloc (.cells zT 57)).alloc (.cells zT 57)).alloc (.cells zS 62)
theorem zeros_is (w : World) : Zeros (zeros w) w.heap.size ∧ Below w.heap.size w (zeros w) ∧ (zeros w).heap.size = w.heap.size + 4 := by
  refine ⟨⟨?_, ?_, ?_, ?_⟩, ?_, by unfold zeros; simp⟩
  · unfold zeros; exact heap_keep (heap_keep (heap_keep (heap_alloc_new w _) ((Below.refl _ _).alloc (Nat.le_refl _) _)) ((Below.refl _ _).alloc (Nat.le_refl _) _)) ((Below.refl _ _).alloc (Nat.le_refl _) _)
  · unfold zeros
    have h := heap_alloc_new (w.alloc (.cells zM 54)) (.cells zT 57)
    rw [World.size_alloc] at h
    exact heap_keep (heap_keep h ((Below.refl _ _).alloc (Nat.le_refl _) _)) ((Below.refl _ _).alloc (Nat.le_refl _) _)
  · unfold zeros
    have h := heap_alloc_new ((w.alloc (.cells zM 54)).alloc (.cells zT 57)) (.cells zT 57)
    rw [World.size_alloc, World.size_alloc] at h
    exact heap_keep h ((Below.refl _ _).alloc (Nat.le_refl _) _)
  · unfold zeros
    have h := heap_alloc_new (((w.alloc (.cells zM 54)).alloc (.cells zT 57)).alloc (.cells zT 57)) (.cells zS 62)
    rw [World.size_alloc, World.size_alloc, World.size_alloc] at h
    exact h
  · unfold zeros
    exact ((((Below.refl w.heap.size w).alloc (Nat.le_refl _) _).alloc (by simp) _).alloc (by simp; omega) _).alloc (by simp; omega) _
/-- zeros that are stored where zeros are -/
structure ZSet (w : World) (b : Nat) : Prop where
  a0 : w.setCell ⟨b, 0, none⟩ (.int .i64 0) = w
  a1 : w.setCell ⟨b, 1, none⟩ (.int .i64 0) = w
  a2 : w.setCell ⟨b, 2, none⟩ (.int .i64 0) = w
  a3 : w.setCell ⟨b, 3, none⟩ (.slice none 0 0) = w
  b0 : w.setCell ⟨b + 1, 0, none⟩ (.slice none 0 0) = w
  b1 : w.setCell ⟨b + 1, 1, none⟩ (.int .i64 0) = w
  c0 : w.setCell ⟨b + 2, 0, none⟩ (.slice none 0 0) = w
  c1 : w.setCell ⟨b + 2, 1, none⟩ (.int .i64 0) = w
  d0 : w.setCell ⟨b + 3, 0, none⟩ (.int .i64 0) = w
  d1 : w.setCell ⟨b + 3, 1, none⟩ (.slice none 0 0) = w
  d2 : w.setCell ⟨b + 3, 2, none⟩ (.int .i64 0) = w
  d3 : w.setCell ⟨b + 3, 3, none⟩ (.bool false) = w
  d4 : w.setCell ⟨b + 3, 4, none⟩ (.int .i64 0) = w
  d5 : w.setCell ⟨b + 3, 5, none⟩ (.slice none 0 0) = w
theorem Zeros.set {w : World} {b : Nat} (h : Zeros w b) : ZSet w b := by
  obtain ⟨h0, h1, h2, h3⟩ := h
  exact ⟨setCell_id h0 rfl, setCell_id h0 rfl, setCell_id h0 rfl, setCell_id h0 rfl, setCell_id h1 rfl, setCell_id h1 rfl, setCell_id h2 rfl, setCell_id h2 rfl, setCell_id h3 rfl, setCell_id h3 rfl, setCell_id h3 rfl, setCell_id h3 rfl, setCell_id h3 rfl, setCell_id h3 rfl⟩
/-- cells that are there, and may be written -/
structure ZCell (w : World) (b : Nat) : Prop where
  a0 : w.cell? ⟨b, 0, none⟩ = some (.int .i64 0)
  a1 : w.cell? ⟨b, 1, none⟩ = some (.int .i64 0)
  a2 : w.cell? ⟨b, 2, none⟩ = some (.int .i64 0)
  a3 : w.cell? ⟨b, 3, none⟩ = some (.slice none 0 0)
  b0 : w.cell? ⟨b + 1, 0, none⟩ = some (.slice none 0 0)
  b1 : w.cell? ⟨b + 1, 1, none⟩ = some (.int .i64 0)
  c0 : w.cell? ⟨b + 2, 0, none⟩ = some (.slice none 0 0)
  c1 : w.cell? ⟨b + 2, 1, none⟩ = some (.int .i64 0)
  d0 : w.cell? ⟨b + 3, 0, none⟩ = some (.int .i64 0)
  d1 : w.cell? ⟨b + 3, 1, none⟩ = some (.slice none 0 0)
  d2 : w.cell? ⟨b + 3, 2, none⟩ = some (.int .i64 0)
  d3 : w.cell? ⟨b + 3, 3, none⟩ = some (.bool false)
  d4 : w.cell? ⟨b + 3, 4, none⟩ = some (.int .i64 0)
  d5 : w.cell? ⟨b + 3, 5, none⟩ = some (.slice none 0 0)
theorem Zeros.cell {w : World} {b : Nat} (h : Zeros w b) : ZCell w b := by
  obtain ⟨h0, h1, h2, h3⟩ := h
  constructor <;> first | exact cell_of_row _ _ _ _ _ _ h0 | exact cell_of_row _ _ _ _ _ _ h1 | exact cell_of_row _ _ _ _ _ _ h2 | exact cell_of_row _ _ _ _ _ _ h3
structure ZFree (w : World) (b : Nat) : Prop where
  fa : ∀ j, w.frozen? ⟨b, j, none⟩ = false
  fb : ∀ j, w.frozen? ⟨b + 1, j, none⟩ = false
  fc : ∀ j, w.frozen? ⟨b + 2, j, none⟩ = false
  fd : ∀ j, w.frozen? ⟨b + 3, j, none⟩ = false
theorem Zeros.free {w : World} {b : Nat} (h : Zeros w b) : ZFree w b := ⟨fun _ => frozen_of_row _ _ _ _ _ h.1, fun _ => frozen_of_row _ _ _ _ _ h.2.1, fun _ => frozen_of_row _ _ _ _ _ h.2.2.1, fun _ => frozen_of_row _ _ _ _ _ h.2.2.2⟩
theorem Zeros.later {w U : World} {b : Nat} (h : Zeros w b) (hb : Below w.heap.size w U) : Zeros U b := ⟨heap_keep h.1 hb, heap_keep h.2.1 hb, heap_keep h.2.2.1 hb, heap_keep h.2.2.2 hb⟩
end Pj
theorem zero_results {fn : Func} {p1 p2 p3 p4 t : Tmp} (h : fn.results = #[.cell p1 54, .cell p2 57, .cell p3 57, .cell p4 62, .tmp t]) (tmps : Array Value) (w : World) (b : Nat) (er : Int) (hz : Zeros w b)
    (a1 : tmps.getD p1 undef = .pointer (some ⟨b, 0, none⟩)) (a2 : tmps.getD p2 undef = .pointer (some ⟨b + 1, 0, none⟩)) (a3 : tmps.getD p3 undef = .pointer (some ⟨b + 2, 0, none⟩)) (a4 : tmps.getD p4 undef = .pointer (some ⟨b + 3, 0, none⟩)) (a5 : tmps.getD t undef = .int .i64 er) :
    (results fn tmps).run Tryz.prog w = .ok (zeroV er) w := by
  rw [results_four_tmp h tmps w _ _ _ _ zM zT zT zS _ _ _ _ _ _ _ _ (.struct (Tryz.prog.fieldsOf 54)) (.struct (Tryz.prog.fieldsOf 57)) (.struct (Tryz.prog.fieldsOf 57)) (.struct (Tryz.prog.fieldsOf 62)) a1 a2 a3 a4 hz.1 hz.2.1 hz.2.2.1 hz.2.2.2 (by kernel_rfl) (by kernel_rfl) (by kernel_rfl) (by kernel_rfl) rfl rfl rfl rfl (by kernel_rfl) (by kernel_rfl) (by kernel_rfl) (by kernel_rfl), a5]
  rfl
set_option maxRecDepth 100000 in
set_option maxHeartbeats 2000000 in
theorem none_any (er : Int) (w : World) : Calls Tryz.prog 33 #[.int .i64 er] w fun e w' => e = .returned (zeroV er) ∧ Below w.heap.size w w' := by
  obtain ⟨hz, hb, hs⟩ := zeros_is w
  have HZ := Lib.hid hz; have HB := Lib.hid hb
  obtain ⟨a0, a1, a2, a3, b0, b1, c0, c1, d0, d1, d2, d3, d4, d5⟩ := hz.set
  obtain ⟨a0', a1', a2', a3', b0', b1', c0', c1', d0', d1', d2', d3', d4', d5'⟩ := hz.cell
  obtain ⟨fa, fb, fc, fd⟩ := hz.free
  clear hz hb hs
  go_enter Tryz.func33, Tryz.ntmps33
  go_upto_region 1 with fail
  have e : (((w.alloc (.cells #[.int .i64 0, .int .i64 0, .int .i64 0, .slice none 0 0] 54)).alloc (.cells #[.slice none 0 0, .int .i64 0] 57)).alloc (.cells #[.slice none 0 0, .int .i64 0] 57)).alloc (.cells #[.int .i64 0, .slice none 0 0, .int .i64 0, .bool false, .int .i64 0, .slice none 0 0] 62) = zeros w := rfl
  rw [e]
  clear e
  generalize zeros w = w1 at *
  go_wp2_with fail
  exact bodyPost_ret (zero_results rfl _ _ w.heap.size er HZ.out rfl rfl rfl rfl rfl) rfl ⟨rfl, HB.out⟩
end Go.Proofs.YtfibapfehgglhaaGreatDoor
/-
  Whether files may be opened; what an empty machine is loaded as: the walks.
-/
namespace Go.Proofs.YtfibapfehgglhaaGreatDoor
open Go.RowKit
open Pj
def Pj.jnlN : ByteArray := ⟨#[106, 111, 117, 114, 110, 97, 108]⟩
/-- names whose files may be opened -/
structure Gated (S : Sf.St) (mg : Nat → ByteArray) (k : Nat) : Prop where
  call : ∀ U, Env U → Calls Tryz.prog 66 #[.string (bs ((Sf.list S.names).getD k []))] U fun e w' => e = .returned (.string (mg k)) ∧ Below U.heap.size U w'
  some_ : (mg k).toList.isEmpty = false
  ms : (mg k).size ≤ 10
  ns : (bs ((Sf.list S.names).getD k [])).size ≤ maxLen
  rs : (S.read (bs ((Sf.list S.names).getD k []))).1.size ≤ maxLen
  er : (Fr.opened (S.read (bs ((Sf.list S.names).getD k []))).1 (mg k)).2.2.2 = 0
set_option maxRecDepth 100000 in
set_option maxHeartbeats 4000000 in
theorem Gate_any {W : World} {base fb B N : Nat} {S : Sf.St} {wr : World} (h : Runs W base fb B N S wr) (hE : Env W) (hd : S.dead = false) (mg : Nat → ByteArray) (hg : ∀ k, k < (Sf.list S.names).length → Gated S mg k) (hj : decide (jnlN.data.toList ∈ Sf.list S.names) = false) :
    Calls Tryz.prog 32 #[.pointer (some ⟨fb, 0, none⟩)] wr fun e w' => e = .returned (.int .i64 0) ∧ Below wr.heap.size wr w' := by
  have HR := Lib.hid h; have HG := Lib.hid hg
  have hfew := h.few
  have HDD := Lib.hid (Dead_any h.fs)
  rw [hd] at HDD
  have HLI := Lib.hid h.list
  have HCT := Lib.hid (fun A c w (hA : Row 1 (tx (Sf.list S.names)) w A (Sf.list S.names).length) => Contains_any A c (Sf.list S.names) (by omega) jnlN w hA)
  rw [hj] at HCT
  clear h hg hj hd
  obtain ⟨L, hL⟩ : ∃ L, L = (Sf.list S.names).length := ⟨_, rfl⟩
  rw [← hL] at hfew HLI HCT HG
  have HLL := Lib.hid hL
  clear hL
  go_enter Tryz.func32, Tryz.ntmps32
  go_wp2_with fail
  refine HDD.out.mono ?_; rintro e w1 ⟨rfl, rfl⟩
  go_wp2_with fail
  refine HLI.out.mono ?_; rintro e w2 ⟨A, c, rfl, ht, hb2⟩
  have hrow := ht.row
  have HT := Lib.hid hrow; have HB2 := Lib.hid hb2
  clear ht hb2 HLI HDD hrow
  go_wp2_with fail
  go_loopw [5, 6, 7, 8, 9, 10, 11, 12, 21] (fun _ _ _ _ _ _ _ _ i wq => ∃ k : Nat, k ≤ L ∧ i = .int .i64 k ∧ Below w2.heap.size w2 wq) (fun _ _ _ _ _ _ _ _ i _ => L - (intOf i).toNat)
  case atStart => exact ⟨0, Nat.zero_le _, rfl, Below.refl _ _⟩
  case round =>
    obtain ⟨k, hk, rfl, hbl⟩ := hrel
    have HBL := Lib.hid hbl
    clear hbl
    have i0 : (0 : Int) ≤ (k : Int) := Int.natCast_nonneg _
    by_cases hlt : k < L
    · have i1 : (k : Int) < (L : Int) := Int.ofNat_lt.2 hlt
      have d1 : decide ((k : Int) < (L : Int)) = true := decide_eq_true i1
      have HGK := Lib.hid (HG.out k hlt)
      have HRR := Lib.hid (HR.out.far (below_step HB2.out HBL.out))
      have hrow := HT.out
      rw [← HLL.out] at hrow
      obtain ⟨ad, rfl, c0, -⟩ := hrow.at_ HBL.out hlt
      have x0 : wr.cell? (ad.add k) = some (.string (bs ((Sf.list S.names).getD k []))) := by have := c0 (by decide); rw [Nat.mul_one] at this; exact this
      have HM := Lib.hid (HGK.out.call wr (hE.later HRR.out.bel))
      have HRD := Lib.hid (fun U (hU : Below wr.heap.size wr U) => (HRR.out.far hU).read _ HGK.out.ns)
      have HOP := Lib.hid (fun U => Open_any _ HGK.out.rs (mg k) (by have := HGK.out.ms; omega) U)
      unfold Four at HOP
      have her := HGK.out.er
      rw [her] at HOP
      have hne := HGK.out.some_
      clear c0 her hrow
      generalize bs ((Sf.list S.names).getD k []) = nm at *
      generalize (S.read nm).1 = rb at *
      generalize (S.read nm).2 = re at *
      generalize mg k = mk at *
      generalize (Fr.opened rb mk).1 = o1 at *
      generalize (Fr.opened rb mk).2.1 = o2 at *
      generalize (Fr.opened rb mk).2.2.1 = o3 at *
      go_wp2_with fail
      refine HM.out.mono ?_; rintro e w3 ⟨rfl, hb3⟩
      have HB3 := Lib.hid hb3
      clear hb3 x0 HM
      go_wp2_with fail
      refine (HRD.out w3 HB3.out).mono ?_; rintro e w4 ⟨rfl, hb4⟩
      have HB4 := Lib.hid (below_step HB3.out hb4)
      clear hb4 HRD hne
      go_wp2_with fail
      refine (HOP.out w4).mono ?_; rintro e w5 ⟨rfl, hb5⟩
      have HB5 := Lib.hid (below_step HBL.out (below_step HB4.out hb5))
      clear hb5 HOP HB4 HB3
      go_wp2_with fail
      go_roundw
      case rel => exact ⟨k + 1, hlt, by go_num, HB5.out⟩
      case measure => simp [intOf]; omega
    · obtain rfl : k = L := by omega
      have d1 : decide ((k : Int) < (k : Int)) = false := decide_eq_false (Int.lt_irrefl _)
      have hrow := HT.out
      rw [← HLL.out] at hrow
      have HC := Lib.hid (HCT.out A c wr (hrow.later HBL.out))
      clear hrow
      go_wp2_with fail
      refine HC.out.mono ?_; rintro e w6 ⟨rfl, rfl⟩
      go_wp2_with fail
      go_ret
      exact ⟨rfl, below_step HB2.out HBL.out⟩
end Go.Proofs.YtfibapfehgglhaaGreatDoor
/-
  An empty machine is opened: a new store is made.
-/
namespace Go.Proofs.YtfibapfehgglhaaGreatDoor
open Go.RowKit
open Pj
set_option maxRecDepth 100000 in
set_option maxHeartbeats 4000000 in
theorem Load0_any {W : World} {base fb B N : Nat} {wr : World} (h : Runs W base fb B N (Sf.St.new 10000) wr) (hE : Env W) :
    Calls Tryz.prog 14 #[.pointer (some ⟨fb, 0, none⟩)] wr fun e w' => e = .returned (zeroV 11) ∧ Below wr.heap.size wr w' := by
  obtain ⟨hz, hb, -⟩ := zeros_is wr
  have HZ := Lib.hid hz; have HB := Lib.hid hb; have HR := Lib.hid (h.far hb)
  have hl := Sf.new_list 10000
  have HGT := Lib.hid (Gate_any (h.far hb) hE rfl (fun _ => ByteArray.empty) (fun k hk => by rw [hl] at hk; exact absurd hk (Nat.not_lt_zero k)) (by rw [hl]; rfl))
  have hrd : (Sf.St.new 10000).read metaN = (⟨#[]⟩, 11) := Sf.read_none rfl ((Sf.Has.new 10000).at_ metaN)
  have HRD := Lib.hid (fun U (hU : Below (zeros wr).heap.size (zeros wr) U) => (HR.out.far hU).read metaN (by decide))
  rw [hrd] at HRD
  clear h hz hb hl hrd
  go_enter Tryz.func14, Tryz.ntmps14
  go_upto_region 1 with fail
  have e : (((wr.alloc (.cells #[.int .i64 0, .int .i64 0, .int .i64 0, .slice none 0 0] 54)).alloc (.cells #[.slice none 0 0, .int .i64 0] 57)).alloc (.cells #[.slice none 0 0, .int .i64 0] 57)).alloc (.cells #[.int .i64 0, .slice none 0 0, .int .i64 0, .bool false, .int .i64 0, .slice none 0 0] 62) = zeros wr := rfl
  rw [e]
  clear e
  generalize zeros wr = w1 at *
  go_wp2_with fail
  refine HGT.out.mono ?_; rintro e w2 ⟨rfl, hb2⟩
  have HB2 := Lib.hid hb2
  clear hb2 HGT
  go_wp2_with fail
  refine (HRD.out w2 HB2.out).mono ?_; rintro e w3 ⟨rfl, hb3⟩
  have HB3 := Lib.hid (below_step HB2.out hb3)
  clear hb3 HRD HB2
  go_wp2_with fail
  refine (none_any 11 w3).mono ?_; rintro e w4 ⟨rfl, hb4⟩
  have HB4 := Lib.hid (below_step HB3.out hb4)
  have HZ4 := Lib.hid (HZ.out.later HB4.out)
  obtain ⟨a0, a1, a2, a3, b0, b1, c0, c1, d0, d1, d2, d3, d4, d5⟩ := HZ4.out.set
  obtain ⟨a0', a1', a2', a3', b0', b1', c0', c1', d0', d1', d2', d3', d4', d5'⟩ := HZ4.out.cell
  obtain ⟨fa, fb, fc, fd⟩ := HZ4.out.free
  clear hb4 HB3
  unfold zeroV zM zT zS
  go_wp2_with fail
  exact bodyPost_ret (zero_results rfl _ _ wr.heap.size 11 HZ4.out rfl rfl rfl rfl rfl) rfl ⟨rfl, below_step HB.out HB4.out⟩
set_option maxRecDepth 100000 in
set_option maxHeartbeats 4000000 in
theorem Open0_any {W : World} {base fb B N : Nat} {wr : World} (h : Runs W base fb B N (Sf.St.new 10000) wr) (hE : Env W) (hN : N ≤ 500) (hB : B ≤ 1000000) :
    Calls Tryz.prog 8 #[.pointer (some ⟨fb, 0, none⟩), .int .i64 3] wr fun e w' => ∃ bs S, e = .returned (.tuple #[.pointer (some ⟨bs, 0, none⟩), .int .i64 0]) ∧ Runs W base fb (B + 900) (N + 210) S w' ∧ Made S ∧ Moves wr w' := by
  obtain ⟨w1, hw1⟩ : ∃ w1, w1 = wr.alloc (.cells #[.pointer (some ⟨fb, 0, none⟩)] 28) := ⟨_, rfl⟩
  obtain ⟨bf, hbf⟩ : ∃ bf, bf = wr.heap.size := ⟨_, rfl⟩
  have hb1 : Below wr.heap.size wr w1 := by rw [hw1]; exact (Below.refl _ _).alloc (Nat.le_refl _) _
  have hx1 : w1.heap[bf]? = some (.cells #[.pointer (some ⟨fb, 0, none⟩)] 28 (0, 0)) := by rw [hw1, hbf]; exact heap_alloc_new wr _
  have HX1 := Lib.hid hx1; have HB1 := Lib.hid hb1
  have HR := Lib.hid (h.far hb1)
  have y0 := cell_of_row _ _ 0 _ _ _ hx1
  simp only [List.getElem?_toArray, List.getElem?_cons_zero] at y0
  clear h hb1 hx1
  go_enter Tryz.func8, Tryz.ntmps8
  go_upto_region 1 with fail
  rw [← hw1, ← hbf]
  clear hw1 hbf
  go_wp2_with fail
  refine (Load0_any HR.out hE).mono ?_; rintro e w2 ⟨rfl, hb2⟩
  have HB2 := Lib.hid hb2
  have hx2 := heap_keep HX1.out hb2
  have HX2 := Lib.hid hx2
  obtain ⟨hz, hbz, -⟩ := zeros_is w2
  have HBZ := Lib.hid hbz
  have z0 := cell_of_row _ _ 0 _ _ _ (heap_keep hx2 hbz)
  simp only [List.getElem?_toArray, List.getElem?_cons_zero] at z0
  clear hb2 y0 hz hx2 hbz
  unfold zeroV zM zT zS
  go_upto_region 4 with fail
  have e : (((w2.alloc (.cells #[.int .i64 0, .int .i64 0, .int .i64 0, .slice none 0 0] 54)).alloc (.cells #[.slice none 0 0, .int .i64 0] 57)).alloc (.cells #[.slice none 0 0, .int .i64 0] 57)).alloc (.cells #[.int .i64 0, .slice none 0 0, .int .i64 0, .bool false, .int .i64 0, .slice none 0 0] 62) = zeros w2 := rfl
  rw [e]
  clear e
  generalize zeros w2 = w3 at *
  have HR3 := Lib.hid (HR.out.far (below_step HB2.out HBZ.out))
  have HM3 := Lib.hid (Moves.below (below_step HB1.out (below_step HB2.out HBZ.out)))
  go_wp2_with fail
  refine (create_any hE HR3.out hN hB).mono ?_; rintro e w4 ⟨bs, S, rfl, hr4, hs4, hm4⟩
  have HF : Hid (Runs W base fb (B + 900) (N + 210) S w4 ∧ Made S ∧ Moves wr w4) := Lib.hid ⟨hr4, hs4, HM3.out.trans hm4⟩
  clear hr4 hs4 hm4 z0
  go_wp2_with fail
  go_ret2
  exact ⟨bs, S, rfl, HF.out⟩
end Go.Proofs.YtfibapfehgglhaaGreatDoor
