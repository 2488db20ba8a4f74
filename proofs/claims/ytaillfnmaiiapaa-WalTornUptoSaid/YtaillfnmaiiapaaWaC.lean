import Derived.Test.YtaillfnmaiiapaaWaA
import Derived.Test.YtaillfnmaiiapaaRow
import Derived.Test.YtaillfnmaiiapaaFrH
/-
  Changes in a world; whether all of them may be.
-/
namespace Go.Proofs.Ytaillfnmaiiapaa
open Go.RowKit
/-- a change, and where its labels lie -/
structure RAt where
  r : Wa.Rec
  A : Option Addr
  c : Nat
def rx (q : Nat → RAt) (i : Nat) : Nat → Value
  | 0 => .int .i64 (q i).r.kind
  | 1 => .slice (q i).A (q i).r.l.length (q i).c
  | 2 => .int .i64 (q i).r.t
  | 3 => .int .i64 (q i).r.hi
  | _ => .int .u64 ((q i).r.v : Int)
/-- changes in a world -/
structure RecsIn (w : World) (A : Option Addr) (n : Nat) (q : Nat → RAt) : Prop where
  row : Row 5 (rx q) w A n
  each : ∀ i, i < n → RecIn w (q i).A (q i).r
  len : n ≤ maxLen
theorem RecsIn.later {w w2 : World} {A : Option Addr} {n : Nat} {q : Nat → RAt} (h : RecsIn w A n q) (hb : Below w.heap.size w w2) : RecsIn w2 A n q := ⟨h.row.later hb, fun i hi => (h.each i hi).later hb, h.len⟩
def recF (q : Nat → RAt) (i : Nat) : Wa.Rec := (q i).r
theorem Wa.firstErr_stop {f : Nat → Wa.Rec} {g : Int} {i : Nat} (h0 : Wa.firstErr f g i = 0) (h1 : Wa.valid (f i) g ≠ 0) : ∀ n, i < n → Wa.firstErr f g n = Wa.valid (f i) g
  | 0, h => by omega
  | n + 1, h => by
    show (if Wa.firstErr f g n = 0 then Wa.valid (f n) g else Wa.firstErr f g n) = _
    by_cases hn : i = n
    · subst hn; rw [if_pos h0]
    · have := Wa.firstErr_stop h0 h1 n (by omega)
      rw [this, if_neg h1]
set_option maxRecDepth 100000 in
set_option maxHeartbeats 4000000 in
theorem allValid_any (A : Option Addr) (n c : Nat) (q : Nat → RAt) (g : Int) (w : World) (h : RecsIn w A n q) :
    Calls Try.prog 21 #[.slice A n c, .int .i64 g] w fun e w' => e = .returned (.int .i64 (Wa.firstErr (recF q) g n)) ∧ Below w.heap.size w w' := by
  have HA := Lib.hid h
  have hn := h.len
  unfold maxLen at hn
  clear h
  go_enter Try.func21, Try.ntmps21
  go_wp2_with fail
  go_loopw [6, 7, 10] (fun _ _ i wr => ∃ k : Nat, k ≤ n ∧ i = .int .i64 k ∧ Below w.heap.size w wr ∧ Wa.firstErr (recF q) g k = 0) (fun _ _ i _ => n - (intOf i).toNat)
  case atStart => exact ⟨0, by omega, rfl, Below.refl _ _, rfl⟩
  case round =>
    obtain ⟨k, hkn, rfl, hb, hfe⟩ := hrel
    have HB := Lib.hid hb; have HFE := Lib.hid hfe; clear hb hfe
    have i0 : (0 : Int) ≤ (k : Int) := Int.natCast_nonneg _
    by_cases hlt : k < n
    · have i1 : (k : Int) < (n : Int) := by omega
      have d1 : decide ((k : Int) < (n : Int)) = true := decide_eq_true i1
      obtain ⟨ad, rfl, cc0, cc1⟩ := HA.out.row.at_ HB.out hlt
      have x0 := cc0 (by decide); have x1 := cc1 1 (by decide) (by decide); have x2 := cc1 2 (by decide) (by decide); have x3 := cc1 3 (by decide) (by decide); have x4 := cc1 4 (by decide) (by decide)
      have HR := Lib.hid ((HA.out.each k hlt).later HB.out)
      have v0 : rx q k 0 = .int .i64 (q k).r.kind := rfl
      have v1 : rx q k 1 = .slice (q k).A (q k).r.l.length (q k).c := rfl
      have v2 : rx q k 2 = .int .i64 (q k).r.t := rfl
      have v3 : rx q k 3 = .int .i64 (q k).r.hi := rfl
      have v4 : rx q k 4 = .int .u64 ((q k).r.v : Int) := rfl
      rw [v0] at x0; rw [v1] at x1; rw [v2] at x2; rw [v3] at x3; rw [v4] at x4
      have HVA := Lib.hid (fun U (hU : Below wr.heap.size wr U) => WValid_any (q k).r (q k).A (q k).c g U (HR.out.later hU))
      have hnx : Wa.firstErr (recF q) g (k + 1) = Wa.valid (q k).r g := by
        show (if Wa.firstErr (recF q) g k = 0 then Wa.valid (q k).r g else _) = _
        rw [if_pos HFE.out]
      have HNX := Lib.hid hnx; clear hnx
      obtain ⟨w8, hw8⟩ : ∃ w8, w8 = wr.alloc (.cells (recC (q k).r (q k).A (q k).c) 52) := ⟨_, rfl⟩
      have hb8 : Below wr.heap.size wr w8 := by rw [hw8]; exact (Below.refl _ _).alloc (Nat.le_refl _) _
      have hy8 : w8.heap[wr.heap.size]? = some (.cells (recC (q k).r (q k).A (q k).c) 52 (0, 0)) := by rw [hw8]; exact heap_alloc_new wr _
      unfold recC at hw8 hy8
      have HY8 := Lib.hid hy8
      have HB8 := Lib.hid hb8
      clear cc0 cc1 v0 v1 v2 v3 v4 hb8 hy8
      unfold recC at HVA
      go_wp2_with fail
      rw [← hw8]
      clear hw8 x0 x1 x2 x3 x4
      refine (HVA.out w8 HB8.out).mono ?_; rintro e w9 ⟨rfl, hb9⟩
      have HB9 := Lib.hid (below_step HB.out (below_step HB8.out hb9))
      clear hb9
      obtain ⟨er, her⟩ : ∃ er, er = Wa.valid (q k).r g := ⟨_, rfl⟩
      have HER := Lib.hid her
      rw [← her]
      clear her
      by_cases he : er = 0
      · have d2 : (er != 0) = false := by simp [he]
        have HF : Hid (Wa.firstErr (recF q) g (k + 1) = 0) := Lib.hid (by rw [HNX.out, ← HER.out]; exact he)
        clear he
        go_wp2_with fail
        go_roundw
        case rel => exact ⟨k + 1, by omega, by go_num, HB9.out, HF.out⟩
        case measure => simp [intOf]; omega
      · have d2 : (er != 0) = true := by simpa using he
        have HF : Hid (Wa.firstErr (recF q) g n = er) := Lib.hid (by rw [HER.out]; exact Wa.firstErr_stop HFE.out (by show Wa.valid (q k).r g ≠ 0; rw [← HER.out]; exact he) n hlt)
        go_wp2_with fail
        go_ret
        exact ⟨by rw [HF.out]; rfl, HB9.out⟩
    · obtain rfl : k = n := by omega
      have d1 : decide ((k : Int) < (k : Int)) = false := decide_eq_false (by omega)
      go_wp2_with fail
      go_ret
      exact ⟨by rw [HFE.out]; rfl, HB.out⟩
end Go.Proofs.Ytaillfnmaiiapaa
/-
  What the functions of package wal come to: Begin.
-/
namespace Go.Proofs.Ytaillfnmaiiapaa
open Go.RowKit
theorem results_tmp_cell_tmp {P : Program} {fn : Func} {q p t : Tmp} {ty : TypeId} (h : fn.results = #[.tmp q, .cell p ty, .tmp t]) (tmps : Array Value) (w : World) (g : Nat) (u : TypeId) (cs : Array Value) (fr : Nat × Nat) (d : TypeDesc)
    (hp : tmps.getD p undef = .pointer (some ⟨g, 0, none⟩)) (hg : w.heap[g]? = some (.cells cs u fr))
    (hu : P.underlying ty = some d) (hd : (match d with | .struct _ | .array _ _ => true | _ => false) = true) (hi : (P.info? ty).map (·.size) = some cs.size) :
    (results fn tmps).run P w = .ok (.tuple #[tmps.getD q undef, .agg cs, tmps.getD t undef]) w := by
  have hp' : tmps[p]?.getD undef = .pointer (some ⟨g, 0, none⟩) := by simpa using hp
  simp [results, h, hp', asAddr, run_loadVar_row w g u ty cs fr d hg hu hd hi]
theorem writer_results {fn : Func} {q p t : Tmp} (h : fn.results = #[.tmp q, .cell p 32, .tmp t]) (tmps : Array Value) (w : World) (g : Nat) (a b u v : Value) (hp : tmps.getD p undef = .pointer (some ⟨g, 0, none⟩)) (hu : tmps.getD q undef = u) (hv : tmps.getD t undef = v) (hg : w.heap[g]? = some (.cells #[a, b] 32 (0, 0))) :
    (results fn tmps).run Try.prog w = .ok (.tuple #[u, .agg #[a, b], v]) w := by
  subst hv; subst hu
  exact results_tmp_cell_tmp h tmps w g _ #[a, b] _ (.struct (Try.prog.fieldsOf 32)) hp hg (by kernel_rfl) rfl (by kernel_rfl)
/-- a writer as a value -/
def wrV (g : Int) (v : Value) : Value := .agg #[.int .i64 g, v]
/-- what a segment begins with -/
def beginV (g : Int) : Value := if Wa.isG g = true then .tuple #[.string (Wa.hd g), wrV g (.slice none 0 0), .int .i64 0] else .tuple #[.string ByteArray.empty, wrV 0 (.slice none 0 0), .int .i64 1]
set_option maxRecDepth 100000 in
set_option maxHeartbeats 1000000 in
theorem Begin_any (g : Int) (w : World) : Calls Try.prog 17 #[.int .i64 g] w fun e w' => e = .returned (beginV g) ∧ Below w.heap.size w w' := by
  obtain ⟨wa, hwa⟩ : ∃ wa, wa = w.alloc (.cells #[.int .i64 0, .slice none 0 0] 32) := ⟨_, rfl⟩
  have hb1 : Below w.heap.size w wa := by rw [hwa]; exact (Below.refl _ _).alloc (Nat.le_refl _) _
  have hx1 : wa.heap[w.heap.size]? = some (.cells #[.int .i64 0, .slice none 0 0] 32 (0, 0)) := by rw [hwa]; exact heap_alloc_new w _
  have HB1 := Lib.hid hb1; have HX1 := Lib.hid hx1
  clear hb1 hx1
  have hgen := wGen_any g wa
  obtain ⟨b, hb⟩ : ∃ b, b = Wa.isG g := ⟨_, rfl⟩
  have HD := Lib.hid (fun W => Head_any Wa.magic (by decide) g 0 W)
  unfold beginV wrV
  rw [← hb] at hgen ⊢
  have HG := Lib.hid hgen
  clear hgen hb
  go_enter Try.func17, Try.ntmps17
  go_wp2_with fail
  rw [← hwa]
  clear hwa
  refine HG.out.mono ?_; rintro e w1 ⟨rfl, rfl⟩
  have f0 := frozen_of_row _ _ 0 _ _ HX1.out
  have f1 := frozen_of_row _ _ 1 _ _ HX1.out
  have c0 := cell_of_row _ _ 0 _ _ _ HX1.out
  have c1 := cell_of_row _ _ 1 _ _ _ HX1.out
  simp only [List.getElem?_toArray, List.getElem?_cons_zero, List.getElem?_cons_succ] at c0 c1
  cases b
  · go_wp2_with fail
    refine bodyPost_ret (writer_results rfl _ _ _ _ _ _ _ rfl rfl rfl (heap_setCell_same _ _ 1 _ _ _ (heap_setCell_same _ _ 0 _ _ _ HX1.out))) rfl ⟨rfl, ?_⟩
    exact (HB1.out.setCell (by show _ ≤ w.heap.size; omega) _).setCell (by show _ ≤ w.heap.size; omega) _
  · go_wp2_with fail
    refine (HD.out _).mono ?_; rintro e w2 ⟨rfl, hb2⟩
    have HB2 := Lib.hid (below_step HB1.out hb2)
    have hx2 := heap_keep HX1.out hb2
    have HX2 := Lib.hid hx2
    clear hb2 hx2 c0 c1 f0 f1
    have f0 := frozen_of_row _ _ 0 _ _ HX2.out
    have f1 := frozen_of_row _ _ 1 _ _ HX2.out
    have c0 := cell_of_row _ _ 0 _ _ _ HX2.out
    have c1 := cell_of_row _ _ 1 _ _ _ HX2.out
    simp only [List.getElem?_toArray, List.getElem?_cons_zero, List.getElem?_cons_succ] at c0 c1
    go_wp2_with fail
    refine bodyPost_ret (writer_results rfl _ _ _ _ _ _ _ rfl rfl rfl (heap_setCell_same _ _ 1 _ _ _ (heap_setCell_same _ _ 0 _ _ _ HX2.out))) rfl ⟨rfl, ?_⟩
    exact (HB2.out.setCell (by show _ ≤ w.heap.size; omega) _).setCell (by show _ ≤ w.heap.size; omega) _
end Go.Proofs.Ytaillfnmaiiapaa
