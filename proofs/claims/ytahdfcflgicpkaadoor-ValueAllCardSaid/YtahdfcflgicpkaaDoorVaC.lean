/-
  What Cost and All of package value come to.
-/
import Derived.Test.YtahdfcflgicpkaaDoorVaB
import Derived.Test.YtahdfcflgicpkaaDoorInts
namespace Go.Proofs.YtahdfcflgicpkaaDoor
open Go.RowKit

set_option maxRecDepth 100000 in
set_option maxHeartbeats 1000000 in
theorem vCost_any (s : Va.S) (hok : s.ok) (hn : s.n < 2199023255552) (v : Nat) (hv : v < 18446744073709551616) (w : World) (hT : TabOk w) :
    Calls Tryd.prog 17 #[s.val, .int .u64 v] w fun e w' => e = .returned (.int .i64 (s.cost v : Nat)) ∧ Below w.heap.size w w' := by
  have hx := Va.xor_lt hv hok.v
  have exor : bits BinOp.xor .u64 (v : Int) (s.v : Int) = ((v ^^^ s.v : Nat) : Int) := u64_xor_nat _ _ hv hok.v
  have hnok := (Va.next_ok hok v hv hn).1
  have hvalid := fun W => Valid_any s.n s.v s.l s.t W
  rw [Va.S.valid hok] at hvalid
  have hnext := fun W h => vnext_any s hok hn v hv W h
  have hway := fun W h => wayOf_any s hok (v ^^^ s.v) hx W h
  have hwin1 := fun W => inWindow_any s hok W
  have hwin2 := fun W => inWindow_any (s.next v) hnok W
  have hcost : s.cost v = if Va.way s (v ^^^ s.v) = 0 then 64 else if Va.way s (v ^^^ s.v) = 1 then 1 else if Va.way s (v ^^^ s.v) = 2 then 2 + s.win else 14 + (s.next v).win := rfl
  have hwl := Va.way_lt s (v ^^^ s.v)
  have hw1 := Va.win_le s
  have hw2 := Va.win_le (s.next v)
  have hval : ∀ s : Va.S, s.val = .agg #[.int .i64 s.n, .int .u64 s.v, .int .i64 s.l, .int .i64 s.t] := fun _ => rfl
  generalize s.cost v = c at *
  generalize v ^^^ s.v = x at *
  generalize s.next v = y at *
  generalize Va.way s x = k at *
  generalize hw1e : s.win = n1 at *
  generalize hw2e : y.win = n2 at *
  rw [hval] at hnext hway hwin1 hwin2
  have hb1 : Below w.heap.size w (w.alloc (.cells #[.int .i64 s.n, .int .u64 s.v, .int .i64 s.l, .int .i64 s.t] 31)) := (Below.refl _ _).alloc (Nat.le_refl _) _
  have hS : VStAt (w.alloc (.cells #[.int .i64 s.n, .int .u64 s.v, .int .i64 s.l, .int .i64 s.t] 31)) w.heap.size s := RowIs.one _ _
  have HVALID := Lib.hid hvalid; have HNEXT := Lib.hid hnext; have HWAY := Lib.hid hway; have HWIN1 := Lib.hid hwin1; have HWIN2 := Lib.hid hwin2; have HCOST := Lib.hid hcost
  have HB1 := Lib.hid hb1; have HS := Lib.hid hS; have HT1 : Hid (TabOk _) := Lib.hid (hT.later hb1)
  clear hvalid hnext hway hwin1 hwin2 hcost hT hb1 hS hv hx hnok hok hw1e hw2e
  rw [hval s]
  have s0 := HS.out.cells.1; have s1 := HS.out.cells.2.1; have s2 := HS.out.cells.2.2.1; have s3 := HS.out.cells.2.2.2
  go_enter Tryd.func17, Tryd.ntmps17
  go_wp2_with fail
  refine (HVALID.out _).mono ?_; rintro e w3 ⟨rfl, hb3⟩
  have HS3 := Lib.hid (HS.out.later hb3); have HT3 : Hid (TabOk w3) := Lib.hid (HT1.out.later hb3); have HB3 := Lib.hid (HB1.out.trans (hb3.mono HB1.out.size))
  clear hb3 s0 s1 s2 s3
  have s0 := HS3.out.cells.1; have s1 := HS3.out.cells.2.1; have s2 := HS3.out.cells.2.2.1; have s3 := HS3.out.cells.2.2.2
  go_wp2_with fail
  refine (HWAY.out _ HT3.out).mono ?_; rintro e w4 ⟨rfl, hb4⟩
  have HS4 := Lib.hid (HS3.out.later hb4); have HT4 : Hid (TabOk w4) := Lib.hid (HT3.out.later hb4); have HB4 := Lib.hid (HB3.out.trans (hb4.mono HB3.out.size))
  clear hb4 s0 s1 s2 s3
  have s0 := HS4.out.cells.1; have s1 := HS4.out.cells.2.1; have s2 := HS4.out.cells.2.2.1; have s3 := HS4.out.cells.2.2.2
  obtain rfl | rfl | rfl | rfl : k = 0 ∨ k = 1 ∨ k = 2 ∨ k = 3 := by omega
  · have HC : Hid (c = 64) := Lib.hid (HCOST.out.trans (if_pos rfl))
    go_wp2_with fail
    go_ret
    exact ⟨ret_int (by rw [HC.out]; rfl), HB4.out⟩
  · have HC : Hid (c = 1) := Lib.hid (HCOST.out.trans (by rw [if_neg (by decide), if_pos rfl]))
    go_wp2_with fail
    go_ret
    exact ⟨ret_int (by rw [HC.out]; rfl), HB4.out⟩
  · have HC : Hid (c = 2 + n1) := Lib.hid (HCOST.out.trans (by rw [if_neg (by decide), if_neg (by decide), if_pos rfl]))
    go_wp2_with fail
    refine (HWIN1.out _).mono ?_; rintro e w5 ⟨rfl, hb5⟩
    have HB5 := Lib.hid (HB4.out.trans (hb5.mono HB4.out.size)); clear hb5
    go_wp2_with fail
    go_ret
    exact ⟨ret_int (by rw [HC.out]; omega), HB5.out⟩
  · have HC : Hid (c = 14 + n2) := Lib.hid (HCOST.out.trans (by rw [if_neg (by decide), if_neg (by decide), if_neg (by decide)]))
    go_wp2_with fail
    refine (HNEXT.out _ HT4.out).mono ?_; rintro e w5 ⟨rfl, hb5⟩
    have HB5 := Lib.hid (HB4.out.trans (hb5.mono HB4.out.size)); clear hb5
    try rw [hval y]
    go_wp2_with fail
    refine (HWIN2.out _).mono ?_; rintro e w6 ⟨rfl, hb6⟩
    have HB6 := Lib.hid (HB5.out.trans (hb6.mono HB5.out.size)); clear hb6
    go_wp2_with fail
    go_ret
    exact ⟨ret_int (by rw [HC.out]; omega), HB6.out⟩

/-- the state behind the first k values; their bits -/
def Va.after (f : Nat → Nat) : Nat → Va.S
  | 0 => ⟨0, 0, 64, 0⟩
  | k + 1 => (Va.after f k).next (f k)
def Va.bits (f : Nat → Nat) : Nat → List Bool
  | 0 => []
  | k + 1 => Va.bits f k ++ (Va.after f k).code (f k)
theorem Va.bits_length (f : Nat → Nat) : ∀ k, (Va.bits f k).length ≤ 78 * k
  | 0 => by simp [Va.bits]
  | k + 1 => by
    have := Va.bits_length f k
    have := Va.cost_le (s := Va.after f k) (f k)
    simp only [Va.bits, List.length_append, Va.S.code_length]; omega
theorem Va.after_ok (f : Nat → Nat) (n : Nat) (hn : n ≤ 100000) (hf : ∀ i, i < n → f i < 18446744073709551616) : ∀ k, k ≤ n → (Va.after f k).ok ∧ (Va.after f k).n = k
  | 0, _ => ⟨⟨by show 0 < _; omega, by show 0 ≤ _; omega, .inl ⟨rfl, rfl⟩⟩, rfl⟩
  | k + 1, h => by
    obtain ⟨h1, h2⟩ := Va.after_ok f n hn hf k (by omega)
    have := Va.next_ok h1 (f k) (hf k (by omega)) (by rw [h2]; omega)
    exact ⟨this.1, by rw [show Va.after f (k + 1) = (Va.after f k).next (f k) from rfl, this.2.2, h2]⟩
theorem IntRow.u64_lt {W : World} {A : Option Addr} {n : Nat} {f : Nat → Int} (h : IntRow W A n .u64 f) {i : Nat} (hi : i < n) : 0 ≤ f i ∧ f i < 18446744073709551616 := by
  obtain ⟨ad, _, _, hc⟩ := h (by omega)
  have := (hc i hi).2
  generalize f i = t at *
  simp [Lit.wf, IntKind.min, IntKind.max, IntKind.signed, IntKind.bits] at this; omega
set_option maxRecDepth 100000 in
set_option maxHeartbeats 1000000 in
theorem vAll_any (w : World) (hT : TabOk w) (A : Option Addr) (len cap : Nat) (f : Nat → Nat) (hlen : len ≤ 1000) (hA : IntRow w A len .u64 (fun i => (f i : Int))) :
    Calls Tryd.prog 11 #[.slice A len cap] w fun e w' => e = .returned (.string (Bit.text (Va.bits f len))) ∧ Below w.heap.size w w' := by
  have hfl : ∀ i, i < len → f i < 18446744073709551616 := fun i hi => by have := (hA.u64_lt hi).2; omega
  have haf := Va.after_ok f len (by omega) hfl
  have HAF := Lib.hid haf; have HFL := Lib.hid hfl
  have HA := Lib.hid hA; have HT := Lib.hid hT; clear hA hT haf hfl
  have hval : ∀ s : Va.S, s.val = .agg #[.int .i64 s.n, .int .u64 s.v, .int .i64 s.l, .int .i64 s.t] := fun _ => rfl
  go_enter Tryd.func11, Tryd.ntmps11
  go_wp2_with fail
  refine (NewWriter_any _).mono ?_; rintro e w2 ⟨rfl, hw2⟩
  have hwr : WrAt w2 w.heap.size w.heap.size none 0 [] := by rw [hw2]; exact WrAt.new w _
  have hb2 : Below w.heap.size w w2 := by rw [hw2]; exact (Below.refl _ _).alloc (Nat.le_refl _) _
  have HWr := Lib.hid hwr; have HB2 := Lib.hid hb2; clear hwr hb2 hw2
  go_wp2_with fail
  go_loopw [10] (fun i wr => ∃ (k : Nat) (A2 : Option Addr) (cap2 : Nat), k ≤ len ∧ i = .int .i64 k ∧ WrAt wr w.heap.size w.heap.size A2 cap2 (Va.bits f k) ∧ VStAt wr w2.heap.size (Va.after f k) ∧ Below w.heap.size w wr) (fun i _ => len - (intOf i).toNat)
  case atStart => exact ⟨0, none, 0, by omega, rfl, HWr.out.later ((Below.refl _ _).alloc (Nat.le_refl _) _), RowIs.one _ _, HB2.out.alloc HB2.out.size _⟩
  case round =>
    obtain ⟨k, A2, cap2, hk, rfl, hw, hs, hb⟩ := hrel
    have HW := Lib.hid hw; have HB := Lib.hid hb; have HS := Lib.hid hs; clear hw hb hs
    have hB := Va.bits_length f k
    have hgp : w.heap.size < w2.heap.size := HWr.out.lt
    by_cases hlt : k < len
    · obtain ⟨ad, rfl, c0, wf0⟩ := HA.out.at_ HB.out hlt
      have hok := HAF.out k (by omega)
      have hfk := HFL.out k hlt
      have HTk : Hid (TabOk wr) := Lib.hid (HT.out.later HB.out)
      have hput := vPut_any w.heap.size w.heap.size A2 cap2 (Va.bits f k) (by omega) (Va.after f k) hok.1 (by rw [hok.2]; omega) (f k) hfk wr.drew (fun j hj => HTk.out j hj) HW.out.drew (by have := HB.out.size; exact this)
      have hbn : Va.bits f (k + 1) = Va.bits f k ++ (Va.after f k).code (f k) := rfl
      have han : Va.after f (k + 1) = (Va.after f k).next (f k) := rfl
      rw [← hbn, ← han] at hput
      generalize Va.after f k = s at *
      generalize hys : Va.after f (k + 1) = y at *
      rw [hval] at hput
      have HPUT := Lib.hid hput; have HYS := Lib.hid hys
      clear hput hok hfk hbn han hys
      obtain ⟨e0, e1, e2, e3⟩ := HS.out.cells
      go_wp2_with fail
      refine plain_still_tail 6 (by kernel_rfl) (by kernel_rfl) ?_
      simp only [List.take_succ_cons, List.take_zero, List.drop_succ_cons, List.drop_zero]
      repeat still_step
      refine wpStill_nil ?_
      go_wp2_with fail
      refine HPUT.out.mono ?_
      rintro e w3 ⟨rfl, A3, cap3, hw3, hN, hF⟩
      have hgl : w2.heap.size < wr.heap.size := HS.out.lt
      have hs3 : VStAt w3 w2.heap.size s := (hF.undrew.same _ hgl (vrow_not HW.out HS.out (by decide) (by omega))).trans HS.out
      have hb3 : Below w.heap.size w w3 := HB.out.trans (hF.undrew.below HB.out.size (putSet_base HW.out (Nat.le_refl _)))
      have hgr := grown_four w3 w2.heap.size 0 1 2 3 (.int .i64 y.n) (.int .u64 y.v) (.int .i64 y.l) (.int .i64 y.t)
      have HN := Lib.hid (hs3.set y)
      have HBN := Lib.hid (hb3.grown hgr hb3.size (fun r e => by cases e; omega))
      have HWN : Hid (WrAt ((((w3.setCell ⟨w2.heap.size, 0, none⟩ (.int .i64 y.n)).setCell ⟨w2.heap.size, 1, none⟩ (.int .u64 y.v)).setCell ⟨w2.heap.size, 2, none⟩ (.int .i64 y.l)).setCell ⟨w2.heap.size, 3, none⟩ (.int .i64 y.t)) w.heap.size w.heap.size A3 cap3 (Va.bits f (k + 1))) :=
        Lib.hid (RowAt.keep hw3 (hgr.block _ hw3.lt (by simp; omega)) (fun g hg => hgr.block _ (by subst hg; exact (row_block hw3.own rfl).2.1) (by
          have hne : g ≠ w2.heap.size := by subst hg; exact own_ne hw3.own hs3 (by decide)
          simp; omega)))
      obtain ⟨r0, r1, r2, r3⟩ := hs3.cells
      obtain ⟨f0, f1, f2, f3⟩ := hs3.free
      try rw [hval y]
      clear hs3 hb3 hw3 hN hF HW HS hgr
      go_wp2_with fail
      go_roundw
      case rel => exact ⟨k + 1, A3, cap3, by omega, by go_num, HWN.out, by rw [HYS.out]; exact HN.out, HBN.out⟩
      case measure => simp [intOf]; omega
    · obtain rfl : k = len := by omega
      go_wp2_with fail
      refine (Bytes_any _ HW.out).mono ?_; rintro e wx ⟨rfl, rfl⟩
      go_wp2_with fail
      go_ret
      exact ⟨rfl, HB.out⟩
end Go.Proofs.YtahdfcflgicpkaaDoor
