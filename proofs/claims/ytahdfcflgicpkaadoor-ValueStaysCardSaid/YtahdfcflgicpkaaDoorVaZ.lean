/-
  ValueStays for every state.
-/
import Derived.Test.YtahdfcflgicpkaaDoorVaY
namespace Go.Proofs.YtahdfcflgicpkaaDoor
open Go.RowKit
/-- a state that may be none -/
def VIAt (W : World) (g : Nat) (n : Int) (v : Nat) (l t : Int) : Prop := W.heap[g]? = some (.cells #[.int .i64 n, .int .u64 v, .int .i64 l, .int .i64 t] 31 (0, 0))
theorem VIAt.lt {W : World} {g : Nat} {n : Int} {v : Nat} {l t : Int} (h : VIAt W g n v l t) : g < W.heap.size := (Array.getElem?_eq_some_iff.1 h).1
theorem VIAt.later {W W2 : World} {g : Nat} {n : Int} {v : Nat} {l t : Int} (h : VIAt W g n v l t) (hb : Below W.heap.size W W2) : VIAt W2 g n v l t := (hb.block g h.lt).trans h
theorem VIAt.cells {W : World} {g : Nat} {n : Int} {v : Nat} {l t : Int} (h : VIAt W g n v l t) : W.cell? ⟨g, 0, none⟩ = some (.int .i64 n) ∧ W.cell? ⟨g, 1, none⟩ = some (.int .u64 v) ∧ W.cell? ⟨g, 2, none⟩ = some (.int .i64 l) ∧ W.cell? ⟨g, 3, none⟩ = some (.int .i64 t) :=
  ⟨cell_of_row _ _ 0 _ _ _ h, cell_of_row _ _ 1 _ _ _ h, cell_of_row _ _ 2 _ _ _ h, cell_of_row _ _ 3 _ _ _ h⟩
set_option maxRecDepth 100000 in
set_option maxHeartbeats 1000000 in
theorem valueStays_walk1 (w : World) (hT : TabOk w) (n : Int) (v : Nat) (hv : v < 18446744073709551616) (l t : Int) (A : Option Addr) (len cap : Nat) (f : Nat → Nat) (hA : IntRow w A len .u64 (fun i => (f i : Int))) :
    Calls Tryd.prog 5 #[.agg #[.int .i64 n, .int .u64 v, .int .i64 l, .int .i64 t], .slice A len cap] w fun e w' => e = .returned (.bool true) ∧ Below w.heap.size w w' := by
  by_cases hall : len ≤ 60 ∧ n ≤ 1099511627776 ∧ Va.validB n l t = true
  · obtain ⟨hl, hn, hvb⟩ := hall
    have hp := of_decide_eq_true hvb
    obtain ⟨n2, rfl⟩ := Int.eq_ofNat_of_zero_le hp.1
    obtain ⟨l2, rfl⟩ := Int.eq_ofNat_of_zero_le hp.2.1
    obtain ⟨t2, rfl⟩ := Int.eq_ofNat_of_zero_le hp.2.2.1
    exact valueStays_walk0 w hT ⟨n2, v, l2, t2⟩ ⟨hv, by show n2 ≤ _; omega, by show (l2 = 64 ∧ t2 = 0) ∨ l2 + t2 < 64; omega⟩ (by show n2 ≤ _; omega) A len cap f hl hA
  · have HT := Lib.hid hT; clear hT hA
    have hb0 : Below w.heap.size w (w.alloc (.cells #[.int .i64 n, .int .u64 v, .int .i64 l, .int .i64 t] 31)) := (Below.refl _ _).alloc (Nat.le_refl _) _
    have HS0 : Hid (VIAt (w.alloc (.cells #[.int .i64 n, .int .u64 v, .int .i64 l, .int .i64 t] 31)) w.heap.size n v l t) := Lib.hid (RowIs.one _ _)
    have HB0 := Lib.hid hb0
    have HV := Lib.hid (fun W => Valid_any n v l t W)
    clear hb0
    go_enter Tryd.func5, Tryd.ntmps5
    go_wp2_with fail
    have hz0 : w.heap.size < (w.alloc (.cells #[.int .i64 n, .int .u64 v, .int .i64 l, .int .i64 t] 31)).heap.size := by simp
    generalize w.alloc (.cells #[.int .i64 n, .int .u64 v, .int .i64 l, .int .i64 t] 31) = wa at *
    have hworks := works_any wa (HT.out.later HB0.out)
    refine hworks.mono ?_; clear hworks; rintro e w1 ⟨rfl, hb1⟩
    have HS1 := Lib.hid (HS0.out.later hb1); have HB1 := Lib.hid (HB0.out.trans (hb1.mono (Nat.le_of_lt hz0)))
    have hz1 : w.heap.size < w1.heap.size := Nat.lt_of_lt_of_le hz0 hb1.size
    clear hb1
    go_wp2_with fail
    refine (NewWriter_any _).mono ?_; rintro e w2 ⟨rfl, hw2⟩
    have hal : Below w1.heap.size w1 w2 := by rw [hw2]; exact (Below.refl _ _).alloc (Nat.le_refl _) _
    have HS2 := Lib.hid (HS1.out.later hal); have HB2 := Lib.hid (HB1.out.trans (hal.mono (Nat.le_of_lt hz1)))
    generalize w1.heap.size = p at *
    clear hal hw2
    obtain ⟨a0, a1, a2, a3⟩ := HS2.out.cells
    by_cases hl : len ≤ 60
    · have d0 : decide ((60 : Int) < (len : Int)) = false := by simp; omega
      by_cases hn : n ≤ 1099511627776
      · have d1 : decide ((1099511627776 : Int) < n) = false := decide_eq_false (by omega)
        have hvf : Va.validB n l t = false := by
          cases h : Va.validB n l t with
          | false => rfl
          | true => exact absurd ⟨hl, hn, h⟩ hall
        rw [hvf] at HV
        clear hall
        go_wp2_with fail
        refine (HV.out _).mono ?_; rintro e w3 ⟨rfl, hb3⟩
        have HB3 := Lib.hid (HB2.out.trans (hb3.mono HB2.out.size))
        clear hb3 a0 a1 a2 a3
        go_wp2_with fail
        go_ret
        exact ⟨rfl, HB3.out⟩
      · have d1 : decide ((1099511627776 : Int) < n) = true := decide_eq_true (by omega)
        clear hall
        go_wp2_with fail
        go_ret
        exact ⟨rfl, HB2.out⟩
    · have d0 : decide ((60 : Int) < (len : Int)) = true := by simp; omega
      clear hall
      go_wp2_with fail
      go_ret
      exact ⟨rfl, HB2.out⟩
/-- a struct of a whole number, a word and two whole numbers that came in -/
theorem open_vstate {H : Type} {enc : TypeId × Value → H} {r : Reach} {b0 : Nat} {v : Value} {d : DataW H} {p : List MemPlace} {w : World}
    (hv : Value.okWide Tryd.prog w r b0 31 v) (h : DataW.Trod enc Tryd.prog w 0 (fun _ => true) true 31 v d p) : ∃ (n : Int) (x : Int) (l t : Int), v = .agg #[.int .i64 n, .int .u64 x, .int .i64 l, .int .i64 t] ∧ (Lit.int .u64 x).wf = true := by
  obtain ⟨cs, rfl, hcs⟩ := Go.WideShapes.okWide_struct Tryd.underlying31 hv
  obtain ⟨fuel, hfu⟩ := h
  obtain ⟨z, hz, _⟩ := struct_ints [.i64, .u64, .i64, .i64] Tryd.underlying31 rfl (fun j f hf => by
    have hj : j < 4 := by
      have := (Array.getElem?_eq_some_iff.1 hf).1
      simpa using this
    obtain rfl | rfl | rfl | rfl : j = 0 ∨ j = 1 ∨ j = 2 ∨ j = 3 := by omega
    all_goals
      simp at hf
      subst hf
      exact ⟨rfl, by kernel_rfl, by kernel_rfl⟩) hfu
  have h0 := hz 0 (by simp)
  have h1 := hz 1 (by simp)
  have h2 := hz 2 (by simp)
  have h3 := hz 3 (by simp)
  have hC : Tryd.prog.cellsOf 31 = 4 := by kernel_rfl
  refine ⟨z 0, z 1, z 2, z 3, ?_, h1.2⟩
  congr 1
  apply Array.ext_getElem?
  intro j
  have c0 : (Value.agg cs).cells.toList = cs.toList := rfl
  rw [c0] at hz h0 h1 h2 h3
  rcases Nat.lt_or_ge j 4 with hj | hj
  · obtain rfl | rfl | rfl | rfl : j = 0 ∨ j = 1 ∨ j = 2 ∨ j = 3 := by omega
    · simpa using h0.1
    · simpa using h1.1
    · simpa using h2.1
    · simpa using h3.1
  · rw [Array.getElem?_eq_none (by omega), Array.getElem?_eq_none (by simpa using hj)]
theorem valueStays_walk {H : Type} {enc : TypeId × Value → H} {r r2 : Reach} {b0 b1 : Nat} {v v2 : Value} {d d2 : DataW H} {p p2 : List MemPlace} (w : World) (hT : TabOk w)
    (hv : Value.okWide Tryd.prog w r b0 31 v) (h : DataW.Trod enc Tryd.prog w 0 (fun _ => true) true 31 v d p)
    (hv2 : Value.okWide Tryd.prog w r2 b1 22 v2) (h2 : DataW.Trod enc Tryd.prog w 0 (fun _ => true) true 22 v2 d2 p2) :
    Calls Tryd.prog 5 #[v, v2] w fun e w' => e = .returned (.bool true) ∧ Below w.heap.size w w' := by
  obtain ⟨n, x, l, t, rfl, hx⟩ := open_vstate hv h
  obtain ⟨x2, rfl, hx2⟩ := u64_nat x hx
  obtain ⟨A, m, c, f, rfl, _, hA⟩ := open_nats hv2 h2
  exact valueStays_walk1 w hT n x2 hx2.out l t A m c f hA
end Go.Proofs.YtahdfcflgicpkaaDoor
