/-
  The walk of StampPuts.
-/
import Derived.Test.YtopdhcbhhkajpaaDoorStX
import Derived.Test.YtopdhcbhhkajpaaDoorStructs
import Derived.Deep.RegionHeld3
namespace Go.Proofs.YtopdhcbhhkajpaaDoor
open Go.RowKit

/-- what a region holds beside the cells that it loads -/
structure PutHeld (w : World) (p : Nat) (A : Option Addr) (cap : Nat) (B : List Bool) (W : World) : Prop where
  wr : WrAt W w.heap.size p A cap B
  cls : ClsOk W
  bel : Below w.heap.size w W
theorem PutHeld.later {w W W2 : World} {p cap : Nat} {A : Option Addr} {B : List Bool} (h : PutHeld w p A cap B W) (hb : Below W.heap.size W W2) : PutHeld w p A cap B W2 :=
  ⟨h.wr.later hb, h.cls.later hb, h.bel.trans (hb.mono h.bel.size)⟩
theorem PutHeld.drew {w W : World} {p cap : Nat} {A : Option Addr} {B : List Bool} (h : PutHeld w p A cap B W) : PutHeld w p A cap B W.drew :=
  ⟨h.wr.drew, fun k hk j hj => h.cls k hk j hj, below_drew h.bel h.bel.size⟩
set_option maxRecDepth 100000 in
set_option maxHeartbeats 2000000 in
theorem stampPuts_walk0 (w : World) (hT : ClsOk w) (s : St.S) (_hs : St.inR s.n) (t : Int) :
    Calls Tryd.prog 3 #[s.val, .int .i64 t] w fun e w' => e = .returned (.bool true) ∧ Below w.heap.size w w' := by
  have HT := Lib.hid hT; clear hT
  have hcost := s.code_length t
  have hcl := s.cost_le t
  have hval : s.val = .agg #[.int .i64 s.n, .int .i64 s.t, .int .i64 s.d] := rfl
  obtain ⟨n2, t2, d2, hnx⟩ : ∃ n2 t2 d2, s.next t = ⟨n2, t2, d2⟩ := ⟨_, _, _, rfl⟩
  have hnv : (s.next t).val = .agg #[.int .i64 n2, .int .i64 t2, .int .i64 d2] := by rw [hnx]; rfl
  rw [hval]
  have b1 : ∀ x, Below w.heap.size w (w.alloc x) := fun x => (Below.refl _ _).alloc (Nat.le_refl _) _
  have HS0 : Hid (StateAt (w.alloc (.cells #[.int .i64 s.n, .int .i64 s.t, .int .i64 s.d] 23)) w.heap.size s) := Lib.hid (RowIs.one _ _)
  have HB0 := Lib.hid (b1 (.cells #[.int .i64 s.n, .int .i64 s.t, .int .i64 s.d] 23))
  clear b1
  go_enter Tryd.func3, Tryd.ntmps3
  go_wp2_with fail
  have hz0 : w.heap.size < (w.alloc (.cells #[.int .i64 s.n, .int .i64 s.t, .int .i64 s.d] 23)).heap.size := by simp
  generalize w.alloc (.cells #[.int .i64 s.n, .int .i64 s.t, .int .i64 s.d] 23) = w0 at *
  have hworks := works_any w0 (HT.out.later HB0.out)
  refine hworks.mono ?_; clear hworks; rintro e w1 ⟨rfl, hb1⟩
  have HS1 := Lib.hid (HS0.out.later hb1); have HB1 := Lib.hid (HB0.out.trans (hb1.mono (Nat.le_of_lt hz0)))
  have hz1 : w.heap.size < w1.heap.size := Nat.lt_of_lt_of_le hz0 hb1.size
  clear hb1
  obtain ⟨s0, s1, s2⟩ := HS1.out.cells
  go_wp2_with fail
  refine (NewWriter_any _).mono ?_; rintro e w2 ⟨rfl, hw2⟩
  have hwr : WrAt w2 w.heap.size w1.heap.size none 0 [] := by rw [hw2]; exact WrAt.new w1 _
  have hal : Below w1.heap.size w1 w2 := by rw [hw2]; exact (Below.refl _ _).alloc (Nat.le_refl _) _
  have HS2 := Lib.hid (HS1.out.later hal); have HB2 := Lib.hid (HB1.out.trans (hal.mono (Nat.le_of_lt hz1))); have HWr := Lib.hid hwr
  have hpw : w.heap.size < w1.heap.size := hz1
  generalize w1.heap.size = p at *
  clear hwr hal hw2 s0 s1 s2
  obtain ⟨s0, s1, s2⟩ := HS2.out.cells
  by_cases hbig : s.n ≤ 1099511627776
  · have d0 : decide (1099511627776 < s.n) = false := by simp; omega
    have HT2 : Hid (ClsOk w2) := Lib.hid (HT.out.later HB2.out)
    go_wp2_with fail
    refine (stPut_any w.heap.size p none 0 [] (by simp) s t w2 HT2.out HWr.out HB2.out.size).mono ?_
    rintro e w3 ⟨rfl, A3, cap3, hw3, hN3, hF3⟩
    rw [List.nil_append] at hw3
    have hs3 : StateAt w3 w.heap.size s := (hF3.same _ HS2.out.lt (row_not HWr.out HS2.out (by decide) (by omega))).trans HS2.out
    have hb3 : Below w.heap.size w w3 := HB2.out.trans (hF3.below HB2.out.size (putSet_base HWr.out (by omega)))
    have hz3 : w.heap.size < w3.heap.size := hs3.lt
    rw [hnv]
    have HW3 := Lib.hid hw3; have HS3 := Lib.hid hs3; have HB3 := Lib.hid hb3
    clear hw3 hs3 hb3 hN3 hF3 s0 s1 s2
    go_upto_region 8 with fail
    have hal : Below w3.heap.size w3 (w3.alloc (.cells #[.int .i64 n2, .int .i64 t2, .int .i64 d2] 23)) := (Below.refl _ _).alloc (Nat.le_refl _) _
    have HX4 : Hid (StateAt (w3.alloc (.cells #[.int .i64 n2, .int .i64 t2, .int .i64 d2] 23)) w3.heap.size ⟨n2, t2, d2⟩) := Lib.hid (RowIs.one _ _)
    have HW4 := Lib.hid (HW3.out.later hal); have HS4 := Lib.hid (HS3.out.later hal); have HB4 := Lib.hid (HB3.out.trans (hal.mono HB3.out.size))
    clear hal
    generalize w3.alloc (.cells #[.int .i64 n2, .int .i64 t2, .int .i64 d2] 23) = w4 at *
    generalize w3.heap.size = gx at *
    obtain ⟨s0, s1, s2⟩ := HS4.out.cells
    go_wp2_with fail
    refine (of_any s w4).mono ?_; rintro e w5 ⟨rfl, hb5⟩
    have HW5 := Lib.hid (HW4.out.later hb5); have HS5 := Lib.hid (HS4.out.later hb5); have HX5 := Lib.hid (HX4.out.later hb5); have HB5 := Lib.hid (HB4.out.trans (hb5.mono HB4.out.size))
    clear hb5 s0 s1 s2
    rw [hval]
    go_wp2_with fail
    refine (rPut_any s t w5).mono ?_; rintro e w6 ⟨rfl, hb6⟩
    have HW6 := Lib.hid (HW5.out.later hb6); have HS6 := Lib.hid (HS5.out.later hb6); have HX6 := Lib.hid (HX5.out.later hb6); have HB6 := Lib.hid (HB5.out.trans (hb6.mono HB5.out.size))
    clear hb6
    rw [hnv]
    go_upto_region 9 with fail
    have hal : Below w6.heap.size w6 (w6.alloc (.cells #[.int .i64 n2, .int .i64 t2, .int .i64 d2] 28)) := (Below.refl _ _).alloc (Nat.le_refl _) _
    have HY7 : Hid (RStateAt (w6.alloc (.cells #[.int .i64 n2, .int .i64 t2, .int .i64 d2] 28)) w6.heap.size ⟨n2, t2, d2⟩) := Lib.hid (RowIs.one _ _)
    have HW7 := Lib.hid (HW6.out.later hal); have HS7 := Lib.hid (HS6.out.later hal); have HX7 := Lib.hid (HX6.out.later hal); have HB7 := Lib.hid (HB6.out.trans (hal.mono HB6.out.size))
    clear hal
    generalize w6.alloc (.cells #[.int .i64 n2, .int .i64 t2, .int .i64 d2] 28) = w7 at *
    generalize w6.heap.size = gy at *
    have HH : PutHeld w p A3 cap3 (s.code t) w7 := ⟨HW7.out, HT.out.later HB7.out, HB7.out⟩
    obtain ⟨s0, s1, s2⟩ := HS7.out.cells
    obtain ⟨x0, x1, x2⟩ := HX7.out.cells
    obtain ⟨y0, y1, y2⟩ := HY7.out.cells
    have hbs : (Bit.str (s.code t)).size = (s.code t).length := Bit.str_size _
    have hofx := fun W => of_any ⟨n2, t2, d2⟩ W
    rw [show (⟨n2, t2, d2⟩ : St.S).val = .agg #[.int .i64 n2, .int .i64 t2, .int .i64 d2] from rfl] at hofx
    have hco := fun W h => cost_any s t W h
    rw [hval, ← hcost] at hco
    have hrb := fun W => rBytes_any (s.code t) (by omega) W
    have hC70 : (s.code t).length ≤ 70 := by omega
    clear hcost hcl
    generalize s.code t = C at *
    have HRB := Lib.hid hrb; have HCO := Lib.hid hco; have HOFX := Lib.hid hofx
    clear hrb hco hofx HW7 HS7 HX7 HY7 HB7
    go_region_held3 (fun W => W.cell? ⟨w.heap.size, 0, none⟩ = some (.int .i64 s.n) ∧ W.cell? ⟨w.heap.size, 1, none⟩ = some (.int .i64 s.t) ∧ W.cell? ⟨w.heap.size, 2, none⟩ = some (.int .i64 s.d) ∧
        W.cell? ⟨gx, 0, none⟩ = some (.int .i64 n2) ∧ W.cell? ⟨gx, 1, none⟩ = some (.int .i64 t2) ∧ W.cell? ⟨gx, 2, none⟩ = some (.int .i64 d2) ∧
        W.cell? ⟨gy, 0, none⟩ = some (.int .i64 n2) ∧ W.cell? ⟨gy, 1, none⟩ = some (.int .i64 t2) ∧ W.cell? ⟨gy, 2, none⟩ = some (.int .i64 d2) ∧ PutHeld w p A3 cap3 C W)
      (first | exact ⟨s0, s1, s2, x0, x1, x2, y0, y1, y2, HH.drew⟩ | (go_split_ands; refine ⟨?_, ?_, ?_, ?_, ?_, ?_, ?_, ?_, ?_, ?_⟩ <;> first | assumption | exact cell_keep (by assumption) hb2 | exact PutHeld.later (by assumption) hb2))
      (first | (go_at_call 15; go_split_ands; refine (Bytes_any _ (PutHeld.wr (by assumption))).mono ?_; rintro e W2 ⟨rfl, rfl⟩) | (go_at_call 16; refine (HRB.out _).mono ?_; rintro e W2 ⟨rfl, hb2⟩) | (go_at_call 17; go_split_ands; refine (Len_any _ (PutHeld.wr (by assumption))).mono ?_; rintro e W2 ⟨rfl, rfl⟩) | (go_at_call 14; refine (HOFX.out _).mono ?_; rintro e W2 ⟨rfl, hb2⟩) | (go_at_call 18; go_split_ands; refine (HCO.out _ (PutHeld.cls (by assumption))).mono ?_; rintro e W2 ⟨rfl, hb2⟩))
    go_wp2_with fail
    go_ret
    go_split_ands
    exact ⟨by simp, PutHeld.bel (by assumption)⟩
  · have d0 : decide (1099511627776 < s.n) = true := by simp; omega
    go_wp2_with fail
    go_ret
    exact ⟨rfl, HB2.out⟩
theorem open_state {H : Type} {enc : TypeId × Value → H} {r : Reach} {b0 : Nat} {v : Value} {d : DataW H} {p : List MemPlace} {w : World}
    (hv : Value.okWide Tryd.prog w r b0 23 v) (h : DataW.Trod enc Tryd.prog w 0 (fun _ => true) true 23 v d p) : ∃ s : St.S, v = s.val ∧ St.inR s.n := by
  obtain ⟨a, b, c, rfl, h0, _, _⟩ := open_struct3 (k0 := .i64) (k1 := .i64) (k2 := .i64) Tryd.underlying23 rfl (fun j f hf => by
    have hj : j < 3 := by
      have := (Array.getElem?_eq_some_iff.1 hf).1
      simpa using this
    obtain rfl | rfl | rfl : j = 0 ∨ j = 1 ∨ j = 2 := by omega
    all_goals
      simp at hf
      subst hf
      exact ⟨rfl, by kernel_rfl, by kernel_rfl⟩) (by kernel_rfl) hv h
  exact ⟨⟨a, b, c⟩, rfl, Lit.wf_i64 h0⟩
theorem stampPuts_walk {H : Type} {enc : TypeId × Value → H} {r : Reach} {b0 : Nat} {v : Value} {d : DataW H} {p : List MemPlace} (w : World) (hT : ClsOk w)
    (hv : Value.okWide Tryd.prog w r b0 23 v) (h : DataW.Trod enc Tryd.prog w 0 (fun _ => true) true 23 v d p) (t : Int) (_ht : (Lit.int .i64 t).wf = true) :
    Calls Tryd.prog 3 #[v, .int .i64 t] w fun e w' => e = .returned (.bool true) ∧ Below w.heap.size w w' := by
  obtain ⟨s, rfl, hs⟩ := open_state hv h
  exact stampPuts_walk0 w hT s hs t
end Go.Proofs.YtopdhcbhhkajpaaDoor
