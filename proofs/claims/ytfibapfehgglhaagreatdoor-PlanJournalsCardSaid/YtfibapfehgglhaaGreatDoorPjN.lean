import Derived.Test.YtfibapfehgglhaaGreatDoorPjH
import Derived.Test.YtfibapfehgglhaaGreatDoorRob
import Derived.Test.YtfibapfehgglhaaGreatDoorSfP
import Derived.Lib.LazyBuf
/-
  A segment of a head alone, read; what is made of no records: the walks.
-/
namespace Go.Proofs.YtfibapfehgglhaaGreatDoor
open Go.RowKit
open Pj
theorem Pj.wB_open : Fr.opened wB awal = (3, 0, ByteArray.empty, 0) := by
  have h := Fr.opened_head awal ByteArray.empty 3 0 (by omega) (by omega)
  rw [ByteArray.append_empty] at h
  exact h
theorem seg_size : (Tryz.prog.info? 62).map (·.size) = some 6 := by kernel_rfl
theorem seg_results {fn : Func} {p t : Tmp} (h : fn.results = #[.cell p 62, .tmp t]) (tmps : Array Value) (w : World) (g : Nat) (a b c d e f v : Value) (hp : tmps.getD p undef = .pointer (some ⟨g, 0, none⟩)) (hv : tmps.getD t undef = v) (hg : w.heap[g]? = some (.cells #[a, b, c, d, e, f] 62 (0, 0))) :
    (results fn tmps).run Tryz.prog w = .ok (.tuple #[.agg #[a, b, c, d, e, f], v]) w := by
  subst hv
  exact results_cell_tmp h tmps w g _ #[a, b, c, d, e, f] _ (.struct (Tryz.prog.fieldsOf 62)) hp hg (by kernel_rfl) rfl seg_size
theorem store6 {w : World} {b : Nat} {a0 a1 a2 a3 a4 a5 : Value} {T : TypeId} (h : w.heap[b]? = some (.cells #[a0, a1, a2, a3, a4, a5] T (0, 0))) (v0 v1 v2 v3 v4 v5 : Value) :
    ((((((w.setCell ⟨b, 0, none⟩ v0).setCell ⟨b, 1, none⟩ v1).setCell ⟨b, 2, none⟩ v2).setCell ⟨b, 3, none⟩ v3).setCell ⟨b, 4, none⟩ v4).setCell ⟨b, 5, none⟩ v5).heap[b]? = some (.cells #[v0, v1, v2, v3, v4, v5] T (0, 0)) ∧
      w.grownBy ((((((w.setCell ⟨b, 0, none⟩ v0).setCell ⟨b, 1, none⟩ v1).setCell ⟨b, 2, none⟩ v2).setCell ⟨b, 3, none⟩ v3).setCell ⟨b, 4, none⟩ v4).setCell ⟨b, 5, none⟩ v5) (some b) := by
  have h0 := heap_setCell_same w b 0 _ _ v0 h
  have h1 := heap_setCell_same _ b 1 _ _ v1 h0
  have h2 := heap_setCell_same _ b 2 _ _ v2 h1
  have h3 := heap_setCell_same _ b 3 _ _ v3 h2
  have h4 := heap_setCell_same _ b 4 _ _ v4 h3
  have h5 := heap_setCell_same _ b 5 _ _ v5 h4
  exact ⟨h5, grown_trans (grown_trans (grown_trans (grown_trans (grown_trans (grown_setCell w b 0 v0) (grown_setCell _ b 1 v1)) (grown_setCell _ b 2 v2)) (grown_setCell _ b 3 v3)) (grown_setCell _ b 4 v4)) (grown_setCell _ b 5 v5)⟩
set_option maxRecDepth 100000 in
theorem clone0_any (w : World) : Calls Tryz.prog 125 #[.slice none 0 0] w fun e w' => e = .returned (.slice none 0 0) ∧ Below w.heap.size w w' := by
  have heq := run_eql_slice_nil (P := Tryz.prog) w 34 9 none 0 0 Tryz.underlying34
  go_enter Tryz.func125, Tryz.ntmps125
  go_wp2_with fail
  go_ret
  exact ⟨rfl, Below.refl _ _⟩
set_option maxRecDepth 100000 in
set_option maxHeartbeats 2000000 in
theorem formOf0_any (w : World) : Calls Tryz.prog 72 #[.int .i64 3, .slice none 0 0] w fun e w' => ∃ nb mb, e = .returned (.iface 215 (.agg #[.pointer (some ⟨nb, 0, none⟩)])) ∧ w'.heap[nb]? = some (.cells #[.slice none 0 0, .map (some mb)] 210 (0, 0)) ∧ Below w.heap.size w w' := by
  have hmm := fun (a : Int) U => run_makeMap_room (P := Tryz.prog) Tryz.underlying208 a U
  go_enter Tryz.func72, Tryz.ntmps72
  go_upto_region 1 with fail
  have HD : Hid (Below w.heap.size w w.drew) := Lib.hid (Below.refl _ _).drew
  refine plain_robJ [(0, some 7), (1, some 8), (2, some 9), (3, some 10), (4, some 11), (5, some 12), (6, some 13), (7, some 5)] [] (fun U V => Below U.heap.size U V) (fun U => Below w.heap.size w U) [(0, .slice none 0 0), (1, .slice none 0 0), (2, .slice none 0 0), (3, .int .i64 0)] [(4, (fun v W => ∃ mb, v = .map (some mb) : Value → World → Prop)), (5, (fun v W => ∃ mb, v = .agg #[.slice none 0 0, .map (some mb)] : Value → World → Prop)), (6, (fun v W => ∃ nb mb, v = .pointer (some ⟨nb, 0, none⟩) ∧ W.heap[nb]? = some (.cells #[.slice none 0 0, .map (some mb)] 210 (0, 0)) : Value → World → Prop)), (7, (fun v W => ∃ nb mb, v = .pointer (some ⟨nb, 0, none⟩) ∧ W.heap[nb]? = some (.cells #[.slice none 0 0, .map (some mb)] 210 (0, 0)) : Value → World → Prop))] 0 (by kernel_rfl) (by kernel_rfl) (by kernel_rfl) (HD.out) (fun U V h hb => below_step h hb) ?_ ?_ ?_
  · intro p hp
    simp only [List.mem_cons, List.not_mem_nil, or_false] at hp
    rcases hp with rfl | rfl | rfl | rfl
    · exact fun v U V h hb => h
    · exact fun v U V h hb => h
    · exact fun v U V h hb => by obtain ⟨nb, mb, e, hc⟩ := h; exact ⟨nb, mb, e, heap_keep hc hb⟩
    · exact fun v U V h hb => by obtain ⟨nb, mb, e, hc⟩ := h; exact ⟨nb, mb, e, heap_keep hc hb⟩
  · refine ⟨⟨_, rfl, fun ν U hU hp => ?_⟩, ?_⟩
    · simp only [zr, zx]; exact zy
    refine ⟨⟨_, rfl, fun ν U hU hp => ?_⟩, ?_⟩
    · simp only [zr, zx, zv hp 0]
      exact zc 125 #[.slice none 0 0] (clone0_any U)
    refine ⟨⟨_, rfl, fun ν U hU hp => ?_⟩, ?_⟩
    · simp only [zr, zx]; exact zy
    refine ⟨⟨_, rfl, fun ν U hU hp => ?_⟩, ?_⟩
    · simp only [zr, zx, zv hp 2]; exact zy
    refine ⟨⟨_, rfl, fun ν U hU hp => ?_⟩, ?_⟩
    · simp only [zr, zx, zv hp 3]
      exact Yld.value (.map (some U.heap.size)) (U.alloc (.map #[] 0)) (by kernel_rfl) (by go_simp) ⟨(Below.refl _ _).alloc (Nat.le_refl _) _, Fx.some_ rfl rfl ⟨_, rfl⟩⟩
    refine ⟨⟨_, rfl, fun ν U hU hp => ?_⟩, ?_⟩
    · simp only [zr, zx, zv hp 1]; have c4 := zu hp 4
      obtain ⟨mb, hv⟩ := c4
      simp only [hv]
      exact Yld.value (.agg #[.slice none 0 0, .map (some mb)]) U (by kernel_rfl) (by go_simp) ⟨Below.refl _ _, Fx.some_ rfl rfl ⟨mb, rfl⟩⟩
    refine ⟨⟨_, rfl, fun ν U hU hp => ?_⟩, ?_⟩
    · simp only [zr, zx]; have c5 := zu hp 5
      obtain ⟨mb, hv⟩ := c5
      simp only [hv]
      exact Yld.value (.pointer (some ⟨U.heap.size, 0, none⟩)) (U.alloc (.cells #[.slice none 0 0, .map (some mb)] 210)) (by kernel_rfl) (by go_simp) ⟨(Below.refl _ _).alloc (Nat.le_refl _) _, Fx.some_ rfl rfl ⟨_, mb, rfl, heap_alloc_new U _⟩⟩
    refine ⟨⟨_, rfl, fun ν U hU hp => ?_⟩, ?_⟩
    · simp only [zr, zx]; have c6 := zu hp 6
      obtain ⟨nb, mb, hv, hc⟩ := c6
      simp only [hv]
      exact Yld.value (.pointer (some ⟨nb, 0, none⟩)) U (by kernel_rfl) (by go_simp) ⟨Below.refl _ _, Fx.some_ rfl rfl ⟨nb, mb, rfl, hc⟩⟩
    trivial
  intro ν w2 hS2 hf
  have c4 := zt hf 4
  have c5 := zt hf 5
  have c6 := zt hf 6
  have c7 := zt hf 7
  simp only [zr, zx, zw hf 0, zw hf 1, zw hf 2, zw hf 3]
  clear hf
  obtain ⟨nb, mb, hv, hc⟩ := c7
  simp only [hv]
  have HS2 := Lib.hid hS2; have HC := Lib.hid hc
  clear c4 c5 c6 hv hc hS2
  refine wpAnyT_done (by kernel_rfl) ?_ _
  refine only_mk ?_
  go_wp2_with fail
  go_loopw [6] (fun i wq => i = .int .i64 (-1) ∧ wq = w2) (fun _ _ => 0)
  case atStart => exact ⟨rfl, rfl⟩
  case round =>
    obtain ⟨rfl, rfl⟩ := hrel
    go_wp2_with fail
    go_ret
    exact ⟨nb, mb, rfl, HC.out, HS2.out⟩
theorem form0_known (nb : Nat) (U : World) : (nilAhead 616 215 (.agg #[.pointer (some ⟨nb, 0, none⟩)]) "alluvium/wal.known").run Tryz.prog U = .ok (some false) U ∧ (method 616 215 (.agg #[.pointer (some ⟨nb, 0, none⟩)]) "alluvium/wal.known").run Tryz.prog U = .ok (407, .pointer (some ⟨nb, 0, none⟩)) U := ⟨by kernel_rfl, by kernel_rfl⟩
set_option maxRecDepth 100000 in
set_option maxHeartbeats 1000000 in
theorem known0_any (nb mb : Nat) (w : World) (h : w.heap[nb]? = some (.cells #[.slice none 0 0, .map (some mb)] 210 (0, 0))) : Calls Tryz.prog 407 #[.pointer (some ⟨nb, 0, none⟩)] w fun e w' => e = .returned (.slice none 0 0) ∧ w' = w := by
  have y0 := cell_of_row _ _ 0 _ _ _ h
  simp only [List.getElem?_toArray, List.getElem?_cons_zero] at y0
  go_enter Tryz.func407, Tryz.ntmps407
  go_wp2_with fail
  go_ret
  exact ⟨rfl, rfl⟩
def Pj.seg0 : Array Value := #[.int .i64 0, .slice none 0 0, .int .i64 10, .bool false, .int .i64 3, .slice none 0 0]
set_option maxRecDepth 100000 in
set_option maxHeartbeats 4000000 in
theorem wread0_any (w : World) : Calls Tryz.prog 37 #[.string wB] w fun e w' => e = .returned (.tuple #[.agg seg0, .int .i64 0]) ∧ Below w.heap.size w w' := by
  have HOP := Lib.hid (fun W => Open_any wB (by rw [wB_size]; decide) awal (by decide) W)
  unfold Four at HOP
  rw [wB_open] at HOP
  have hz := wB_size
  generalize wB = s at *
  go_enter Tryz.func37, Tryz.ntmps37
  go_wp2_with fail
  obtain ⟨wa, hwa⟩ : ∃ wa, wa = w.alloc (.cells zS 62) := ⟨_, rfl⟩
  have hba : Below w.heap.size w wa := by rw [hwa]; exact (Below.refl _ _).alloc (Nat.le_refl _) _
  have hxa : wa.heap[w.heap.size]? = some (.cells zS 62 (0, 0)) := by rw [hwa]; exact heap_alloc_new w _
  unfold zS at hwa
  rw [← hwa]
  obtain ⟨ob, hob⟩ : ∃ ob, ob = w.heap.size := ⟨_, rfl⟩
  rw [← hob] at hxa ⊢
  have HOB := Lib.hid hob
  have HBA := Lib.hid hba; have HXA := Lib.hid hxa
  clear hwa hba hxa hob
  refine (HOP.out wa).mono ?_; rintro e w1 ⟨rfl, hb1⟩
  have HB1 := Lib.hid (below_step HBA.out hb1); have HX1 := Lib.hid (heap_keep HXA.out hb1)
  clear hb1 HBA HXA HOP
  go_wp2_with fail
  refine (formOf0_any w1).mono ?_; rintro e w2 ⟨nb, mb, rfl, hn2, hb2⟩
  have HB2 := Lib.hid (below_step HB1.out hb2); have HX2 := Lib.hid (heap_keep HX1.out hb2); have HN2 := Lib.hid hn2
  have k1 := fun U => (form0_known nb U).1; have k2 := fun U => (form0_known nb U).2
  clear hb2 hn2 HB1 HX1
  go_wp2_with fail
  go_loopw [6, 9, 10, 11, 12] (fun r6 r9 _ _ _ wr => r6 = .string ByteArray.empty ∧ r9 = .slice none 0 0 ∧ wr = w2) (fun _ _ _ _ _ _ => 0)
  case atStart => exact ⟨rfl, rfl, rfl⟩
  case round =>
    obtain ⟨rfl, rfl, rfl⟩ := hrel
    have hx := HX2.out
    unfold zS at hx
    have z0 := cell_of_row _ _ 0 _ _ _ hx; have z1 := cell_of_row _ _ 1 _ _ _ hx; have z2 := cell_of_row _ _ 2 _ _ _ hx; have z3 := cell_of_row _ _ 3 _ _ _ hx; have z4 := cell_of_row _ _ 4 _ _ _ hx; have z5 := cell_of_row _ _ 5 _ _ _ hx
    have f0 := frozen_of_row _ _ 0 _ _ hx; have f1 := frozen_of_row _ _ 1 _ _ hx; have f2 := frozen_of_row _ _ 2 _ _ hx; have f3 := frozen_of_row _ _ 3 _ _ hx; have f4 := frozen_of_row _ _ 4 _ _ hx; have f5 := frozen_of_row _ _ 5 _ _ hx
    simp only [List.getElem?_toArray, List.getElem?_cons_zero, List.getElem?_cons_succ] at z0 z1 z2 z3 z4 z5
    obtain ⟨hs6, hg6⟩ := store6 hx (.int .i64 0) (.slice none 0 0) (.int .i64 10) (.bool false) (.int .i64 3) (.slice none 0 0)
    have HS6 := Lib.hid hs6
    have HB6 := Lib.hid (HB2.out.grown hg6 HB2.out.size (fun r e => by obtain rfl : ob = r := Option.some.inj e; rw [HOB.out]; exact Nat.le_refl _))
    clear hs6 hg6 hx
    go_upto_region 13 with fail
    go_wp2_with fail
    refine (known0_any nb mb _ HN2.out).mono ?_; rintro e w3 ⟨rfl, rfl⟩
    go_wp2_with fail
    exact bodyPost_ret (seg_results rfl _ _ ob _ _ _ _ _ _ _ rfl rfl HS6.out) rfl ⟨rfl, HB6.out⟩
end Go.Proofs.YtfibapfehgglhaaGreatDoor
/-
  What is made of no records, and of no blocks: the walks.
-/
namespace Go.Proofs.YtfibapfehgglhaaGreatDoor
open Go.RowKit
open Pj
theorem state_size : (Tryz.prog.info? 57).map (·.size) = some 2 := by kernel_rfl
theorem state_results {fn : Func} {p t : Tmp} (h : fn.results = #[.cell p 57, .tmp t]) (tmps : Array Value) (w : World) (g : Nat) (a b v : Value) (hp : tmps.getD p undef = .pointer (some ⟨g, 0, none⟩)) (hv : tmps.getD t undef = v) (hg : w.heap[g]? = some (.cells #[a, b] 57 (0, 0))) :
    (results fn tmps).run Tryz.prog w = .ok (.tuple #[.agg #[a, b], v]) w := by
  subst hv
  exact results_cell_tmp h tmps w g _ #[a, b] _ (.struct (Tryz.prog.fieldsOf 57)) hp hg (by kernel_rfl) rfl state_size
def Pj.workV (p : Value) : Array Value := #[.slice none 0 0, .int .i64 0, p, .int .i64 0, .slice none 0 0, .slice none 0 0, .int .i64 0, .int .i64 0, .int .u64 0, .int .i64 0, .int .i64 0, .int .i64 0, .int .i64 0, .slice none 0 0, .slice none 0 0]
set_option maxRecDepth 100000 in
theorem sclone0_any (w : World) : Calls Tryz.prog 127 #[.slice none 0 0] w fun e w' => e = .returned (.slice none 0 0) ∧ Below w.heap.size w w' := by
  have heq := run_eql_slice_nil (P := Tryz.prog) w 55 199 none 0 0 Tryz.underlying55
  go_enter Tryz.func127, Tryz.ntmps127
  go_wp2_with fail
  go_ret
  exact ⟨rfl, Below.refl _ _⟩
set_option maxRecDepth 100000 in
set_option maxHeartbeats 1000000 in
theorem firsts0_any (w : World) : Calls Tryz.prog 130 #[.slice none 0 0] w fun e w' => ∃ m, e = .returned (.map (some m)) ∧ Below w.heap.size w w' := by
  have hmm := fun (a : Int) U => run_makeMap_room (P := Tryz.prog) Tryz.underlying157 a U
  have HB := Lib.hid ((Below.refl w.heap.size w).alloc (Nat.le_refl _) (.map #[] 0))
  go_enter Tryz.func130, Tryz.ntmps130
  go_upto_region 2 with fail
  generalize w.alloc (.map #[] 0) = w1 at *
  obtain ⟨m, hm⟩ : ∃ m, m = w.heap.size := ⟨_, rfl⟩
  rw [← hm]
  clear hm
  go_wp2_with fail
  go_loopw [4] (fun i wq => i = .int .i64 (-1) ∧ wq = w1) (fun _ _ => 0)
  case atStart => exact ⟨rfl, rfl⟩
  case round =>
    obtain ⟨rfl, rfl⟩ := hrel
    go_wp2_with fail
    go_ret
    exact ⟨m, rfl, HB.out⟩
set_option maxRecDepth 100000 in
set_option maxHeartbeats 4000000 in
theorem tbegin0_any (w : World) : Calls Tryz.prog 74 #[.agg #[.slice none 0 0, .int .i64 0]] w fun e w' => ∃ bw p, e = .returned (.pointer (some ⟨bw, 0, none⟩)) ∧ w'.heap[bw]? = some (.cells (workV p) 164 (0, 0)) ∧ Below w.heap.size w w' := by
  obtain ⟨w1, hw1⟩ : ∃ w1, w1 = w.alloc (.cells zT 57) := ⟨_, rfl⟩
  obtain ⟨b1, hb1⟩ : ∃ b1, b1 = w.heap.size := ⟨_, rfl⟩
  have hbb : Below w.heap.size w w1 := by rw [hw1]; exact (Below.refl _ _).alloc (Nat.le_refl _) _
  have hx1 : w1.heap[b1]? = some (.cells zT 57 (0, 0)) := by rw [hw1, hb1]; exact heap_alloc_new w _
  have HX1 := Lib.hid hx1; have HB1 := Lib.hid hbb
  clear hx1 hbb
  unfold zT at hw1 HX1
  go_enter Tryz.func74, Tryz.ntmps74
  go_upto_region 1 with fail
  rw [← hw1, ← hb1]
  clear hw1 hb1
  have HD : Hid (Below w1.heap.size w1 w1.drew) := Lib.hid (Below.refl _ _).drew
  refine plain_robJ [(0, some 6), (1, some 7), (2, some 8), (3, some 9), (4, some 10), (5, some 11), (6, some 12), (7, some 13), (8, some 3)] [] (fun U V => Below U.heap.size U V) (fun U => Below w1.heap.size w1 U) [(0, .pointer (some ⟨b1, 1, none⟩)), (1, .int .i64 0), (2, .pointer (some ⟨b1, 0, none⟩)), (3, .slice none 0 0), (4, .slice none 0 0), (5, .agg #[.slice none 0 0, .int .i64 0]), (6, .agg (workV (.map none)))] [(7, (fun v W => ∃ nb, v = .pointer (some ⟨nb, 0, none⟩) ∧ w.heap.size ≤ nb ∧ W.heap[nb]? = some (.cells (workV (.map none)) 164 (0, 0)) : Value → World → Prop)), (8, (fun v W => ∃ nb, v = .pointer (some ⟨nb, 0, none⟩) ∧ w.heap.size ≤ nb ∧ W.heap[nb]? = some (.cells (workV (.map none)) 164 (0, 0)) : Value → World → Prop))] 0 (by kernel_rfl) (by kernel_rfl) (by kernel_rfl) (HD.out) (fun U V h hb => below_step h hb) ?_ ?_ ?_
  · intro p hp
    simp only [List.mem_cons, List.not_mem_nil, or_false] at hp
    rcases hp with rfl | rfl
    · exact fun v U V h hb => by obtain ⟨nb, e, hl, hc⟩ := h; exact ⟨nb, e, hl, heap_keep hc hb⟩
    · exact fun v U V h hb => by obtain ⟨nb, e, hl, hc⟩ := h; exact ⟨nb, e, hl, heap_keep hc hb⟩
  · refine ⟨⟨_, rfl, fun ν U hU hp => ?_⟩, ?_⟩
    · simp only [zr, zx]; exact zy
    refine ⟨⟨_, rfl, fun ν U hU hp => ?_⟩, ?_⟩
    · simp only [zr, zx, zv hp 0]; exact zy (h := by have h0 : U.cell? ⟨b1, 1, none⟩ = some (.int .i64 0) := cell_of_row _ _ _ _ _ _ (heap_keep HX1.out hU); go_simp)
    refine ⟨⟨_, rfl, fun ν U hU hp => ?_⟩, ?_⟩
    · simp only [zr, zx]; exact zy
    refine ⟨⟨_, rfl, fun ν U hU hp => ?_⟩, ?_⟩
    · simp only [zr, zx, zv hp 2]; exact zy (h := by have h0 : U.cell? ⟨b1, 0, none⟩ = some (.slice none 0 0) := cell_of_row _ _ _ _ _ _ (heap_keep HX1.out hU); go_simp)
    refine ⟨⟨_, rfl, fun ν U hU hp => ?_⟩, ?_⟩
    · simp only [zr, zx, zv hp 3]
      exact zc 127 #[.slice none 0 0] (sclone0_any U)
    refine ⟨⟨_, rfl, fun ν U hU hp => ?_⟩, ?_⟩
    · simp only [zr, zx, zv hp 1, zv hp 4]; exact zy
    refine ⟨⟨_, rfl, fun ν U hU hp => ?_⟩, ?_⟩
    · simp only [zr, zx, zv hp 5]
      exact Yld.value (.agg (workV (.map none))) U (by kernel_rfl) (by unfold workV; go_simp) ⟨Below.refl _ _, Fx.fixed rfl rfl⟩
    refine ⟨⟨_, rfl, fun ν U hU hp => ?_⟩, ?_⟩
    · simp only [zr, zx, zv hp 6]
      exact Yld.value (.pointer (some ⟨U.heap.size, 0, none⟩)) (U.alloc (.cells (workV (.map none)) 164)) (by kernel_rfl) (by go_simp) ⟨(Below.refl _ _).alloc (Nat.le_refl _) _, Fx.some_ rfl rfl ⟨_, rfl, Nat.le_trans HB1.out.size hU.size, heap_alloc_new U _⟩⟩
    refine ⟨⟨_, rfl, fun ν U hU hp => ?_⟩, ?_⟩
    · simp only [zr, zx]; have c7 := zu hp 7
      obtain ⟨nb, hv, hl, hc⟩ := c7
      simp only [hv]
      exact Yld.value (.pointer (some ⟨nb, 0, none⟩)) U (by kernel_rfl) (by go_simp) ⟨Below.refl _ _, Fx.some_ rfl rfl ⟨nb, rfl, hl, hc⟩⟩
    trivial
  intro ν w2 hS2 hf
  have c7 := zt hf 7
  have c8 := zt hf 8
  simp only [zr, zx, zw hf 0, zw hf 1, zw hf 2, zw hf 3, zw hf 4, zw hf 5, zw hf 6]
  clear hf
  obtain ⟨nb, hv, hl, hc⟩ := c8
  simp only [hv]
  have HS2 := Lib.hid (below_step HB1.out hS2); have HC := Lib.hid hc; have HL := Lib.hid hl
  clear c7 hv hS2
  refine wpAnyT_done (by kernel_rfl) ?_ _
  refine only_mk ?_
  unfold workV at hc
  have y0 := cell_of_row _ _ 0 _ _ _ hc
  simp only [List.getElem?_toArray, List.getElem?_cons_zero] at y0
  go_wp2_with fail
  go_loopw [4, 5, 20] (fun _ _ i wq => i = .int .i64 0 ∧ wq = w2) (fun _ _ _ _ => 0)
  case atStart => exact ⟨rfl, rfl⟩
  case round =>
    obtain ⟨rfl, rfl⟩ := hrel
    go_wp2_with fail
    refine (firsts0_any wr).mono ?_; rintro e w3 ⟨m, rfl, hb3⟩
    have HB3 := Lib.hid (below_step HS2.out hb3)
    have hc3 := heap_keep HC.out hb3
    have HC3 := Lib.hid hc3
    unfold workV at hc3
    have y2 := cell_of_row _ _ 2 _ _ _ hc3; have f2 := frozen_of_row _ _ 2 _ _ hc3
    simp only [List.getElem?_toArray, List.getElem?_cons_zero, List.getElem?_cons_succ] at y2
    clear hb3 hc3 hc
    go_wp2_with fail
    go_ret
    exact ⟨nb, .map (some m), rfl, heap_setCell_same w3 nb 2 _ _ _ HC3.out, HB3.out.grown (grown_setCell w3 nb 2 _) HB3.out.size (fun r e => by obtain rfl : nb = r := Option.some.inj e; exact HL.out)⟩
set_option maxRecDepth 100000 in
set_option maxHeartbeats 4000000 in
theorem all0_any (w : World) : Calls Tryz.prog 38 #[.agg #[.slice none 0 0, .int .i64 0], .slice none 0 0] w fun e w' => e = .returned (.tuple #[.agg zT, .int .i64 0]) ∧ Below w.heap.size w w' := by
  obtain ⟨w1, hw1⟩ : ∃ w1, w1 = w.alloc (.cells zT 57) := ⟨_, rfl⟩
  obtain ⟨b1, hb1⟩ : ∃ b1, b1 = w.heap.size := ⟨_, rfl⟩
  have hbb : Below w.heap.size w w1 := by rw [hw1]; exact (Below.refl _ _).alloc (Nat.le_refl _) _
  have hx1 : w1.heap[b1]? = some (.cells zT 57 (0, 0)) := by rw [hw1, hb1]; exact heap_alloc_new w _
  obtain ⟨w2, hw2⟩ : ∃ w2, w2 = w1.alloc (.cells zT 57) := ⟨_, rfl⟩
  obtain ⟨b2, hb2⟩ : ∃ b2, b2 = w1.heap.size := ⟨_, rfl⟩
  have hbc : Below w1.heap.size w1 w2 := by rw [hw2]; exact (Below.refl _ _).alloc (Nat.le_refl _) _
  have hx2 : w2.heap[b2]? = some (.cells zT 57 (0, 0)) := by rw [hw2, hb2]; exact heap_alloc_new w1 _
  have hx12 := heap_keep hx1 hbc
  have HX2 := Lib.hid hx2; have HB2 := Lib.hid (below_step hbb hbc)
  have HLE : Hid (w.heap.size ≤ b2) := Lib.hid (by rw [hb2]; exact hbb.size)
  have e12 : w1.heap.size = w.heap.size + 1 := by rw [hw1]; simp
  rw [e12, ← hb1] at hb2
  clear hx2 hbb hbc hx1 e12
  unfold zT at hw1 hw2 hx12
  have y0 := cell_of_row _ _ 0 _ _ _ hx12; have y1 := cell_of_row _ _ 1 _ _ _ hx12
  simp only [List.getElem?_toArray, List.getElem?_cons_zero, List.getElem?_cons_succ] at y0 y1
  clear hx12
  go_enter Tryz.func38, Tryz.ntmps38
  go_upto_region 1 with fail
  rw [← hw1, ← hw2, ← hb1, ← hb2]
  clear hw1 hw2 hb1 hb2
  go_wp2_with fail
  refine (tbegin0_any w2).mono ?_; rintro e w3 ⟨bw, p, rfl, hc, hb3⟩
  have HB3 := Lib.hid (below_step HB2.out hb3); have HX3 := Lib.hid (heap_keep HX2.out hb3); have HC := Lib.hid hc
  clear hc hb3 y0 y1
  go_wp2_with fail
  go_loopw [7, 8, 13] (fun _ _ i wq => i = .int .i64 0 ∧ wq = w3) (fun _ _ _ _ => 0)
  case atStart => exact ⟨rfl, rfl⟩
  case round =>
    obtain ⟨rfl, rfl⟩ := hrel
    have hc := HC.out
    unfold workV at hc
    have y0 := cell_of_row _ _ 0 _ _ _ hc; have y1 := cell_of_row _ _ 1 _ _ _ hc
    simp only [List.getElem?_toArray, List.getElem?_cons_zero, List.getElem?_cons_succ] at y0 y1
    have hx := HX3.out
    unfold zT at hx
    have z0 := cell_of_row _ _ 0 _ _ _ hx; have z1 := cell_of_row _ _ 1 _ _ _ hx
    have f0 := frozen_of_row _ _ 0 _ _ hx; have f1 := frozen_of_row _ _ 1 _ _ hx
    simp only [List.getElem?_toArray, List.getElem?_cons_zero, List.getElem?_cons_succ] at z0 z1
    clear hc hx
    go_wp2_with fail
    have hx := HX3.out
    rw [setCell_id hx rfl, setCell_id hx rfl]
    unfold zT at hx
    exact bodyPost_ret (state_results rfl _ _ b2 _ _ _ rfl rfl hx) rfl ⟨rfl, HB3.out⟩
set_option maxRecDepth 100000 in
set_option maxHeartbeats 4000000 in
theorem blocks0_any (v : Value) (A : Option Addr) (c : Nat) (w : World) : Calls Tryz.prog 35 #[v, .slice A 0 c] w fun e w' => e = .returned (.tuple #[.agg zT, .bool true]) ∧ Below w.heap.size w w' := by
  obtain ⟨w1, hw1⟩ : ∃ w1, w1 = w.alloc (.cells zT 57) := ⟨_, rfl⟩
  obtain ⟨b1, hb1⟩ : ∃ b1, b1 = w.heap.size := ⟨_, rfl⟩
  have hbb : Below w.heap.size w w1 := by rw [hw1]; exact (Below.refl _ _).alloc (Nat.le_refl _) _
  have hx1 : w1.heap[b1]? = some (.cells zT 57 (0, 0)) := by rw [hw1, hb1]; exact heap_alloc_new w _
  obtain ⟨w2, hw2⟩ : ∃ w2, w2 = w1.alloc (.cells zT 57) := ⟨_, rfl⟩
  obtain ⟨b2, hb2⟩ : ∃ b2, b2 = w1.heap.size := ⟨_, rfl⟩
  have hbc : Below w1.heap.size w1 w2 := by rw [hw2]; exact (Below.refl _ _).alloc (Nat.le_refl _) _
  have hx2 : w2.heap[b2]? = some (.cells zT 57 (0, 0)) := by rw [hw2, hb2]; exact heap_alloc_new w1 _
  have HX1 := Lib.hid (heap_keep hx1 hbc)
  have HX2 := Lib.hid hx2; have HB2 := Lib.hid (below_step hbb hbc)
  have e12 : w1.heap.size = w.heap.size + 1 := by rw [hw1]; simp
  rw [e12, ← hb1] at hb2
  clear hx2 hbb hbc hx1 e12
  unfold zT at hw1 hw2
  go_enter Tryz.func35, Tryz.ntmps35
  have HW := Lib.hid (And.intro hw1 (And.intro hb1 (And.intro hw2 hb2)))
  clear hw1 hb1 hw2 hb2
  go_wp2_with fail
  go_step3
  go_wp2_with fail
  go_step3
  go_wp2_with fail
  obtain ⟨hw1, hb1, hw2, hb2⟩ := HW.out
  rw [← hw1, ← hb1, ← hw2, ← hb2]
  clear hw1 hb1 hw2 hb2 HW
  go_loopw [7, 9, 10, 11, 12, 13, 14, 15, 16, 18, 21] (fun ok _ _ _ _ _ _ _ _ _ i wq => ok = .bool true ∧ i = .int .i64 0 ∧ wq = w2) (fun _ _ _ _ _ _ _ _ _ _ _ _ => 0)
  case atStart => exact ⟨rfl, rfl, rfl⟩
  case round =>
    obtain ⟨rfl, rfl, rfl⟩ := hrel
    have hc := HX2.out
    unfold zT at hc
    have y0 := cell_of_row _ _ 0 _ _ _ hc; have y1 := cell_of_row _ _ 1 _ _ _ hc
    simp only [List.getElem?_toArray, List.getElem?_cons_zero, List.getElem?_cons_succ] at y0 y1
    have hx := HX1.out
    unfold zT at hx
    have z0 := cell_of_row _ _ 0 _ _ _ hx; have z1 := cell_of_row _ _ 1 _ _ _ hx
    have f0 := frozen_of_row _ _ 0 _ _ hx; have f1 := frozen_of_row _ _ 1 _ _ hx
    simp only [List.getElem?_toArray, List.getElem?_cons_zero, List.getElem?_cons_succ] at z0 z1
    clear hc hx
    go_wp2_with fail
    have hx := HX1.out
    rw [setCell_id hx rfl, setCell_id hx rfl, Exit.noGoto_ret]
    unfold zT at hx
    exact bodyPost_ret (state_results rfl _ _ b1 _ _ _ rfl rfl hx) rfl ⟨rfl, HB2.out⟩
end Go.Proofs.YtfibapfehgglhaaGreatDoor
