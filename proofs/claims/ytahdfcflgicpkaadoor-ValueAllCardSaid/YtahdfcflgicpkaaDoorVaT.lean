/-
  What works of the laws comes to.
-/
import Derived.Test.YtahdfcflgicpkaaDoorVaJ
import Derived.Test.YtahdfcflgicpkaaDoorVaK
namespace Go.Proofs.YtahdfcflgicpkaaDoor
open Go.RowKit

theorem natRow_lit {W : World} {g : Nat} {t : TypeId} (l : List Nat) (h : W.heap[g]? = some (.cells (natVals l).toArray t (0, 0))) (hr : ∀ t ∈ l, t < 18446744073709551616) : IntRow W (some ⟨g, 0, none⟩) l.length .u64 (fun i => ((l.getD i 0 : Nat) : Int)) := by
  intro _
  refine ⟨⟨g, 0, none⟩, rfl, (Array.getElem?_eq_some_iff.1 h).1, fun i hi => ?_⟩
  have hc : W.cell? ((⟨g, 0, none⟩ : Addr).add i) = some (.int .u64 ((l.getD i 0 : Nat) : Int)) := by
    have := cell_of_row W g i _ _ _ h
    rw [show ((⟨g, 0, none⟩ : Addr).add i) = ⟨g, i, none⟩ from by simp [Addr.add]; exact fun h => h.symm]
    rw [this]
    simp [natVals, List.getD, hi]
  refine ⟨hc, ?_⟩
  have := hr (l.getD i 0) (by simp [List.getD, hi])
  show (Lit.int .u64 ((l.getD i 0 : Nat) : Int)).wf = true
  generalize l.getD i 0 = t at *
  simp [Lit.wf, IntKind.min, IntKind.max, IntKind.signed, IntKind.bits]; omega
theorem IntRow.later {W W2 : World} {A : Option Addr} {n : Nat} {k : IntKind} {f : Nat → Int} (h : IntRow W A n k f) (hb : Below W.heap.size W W2) : IntRow W2 A n k f := fun hn => by
  obtain ⟨ad, e, hlt, hc⟩ := h hn
  refine ⟨ad, e, Nat.lt_of_lt_of_le hlt hb.size, fun i hi => ⟨?_, (hc i hi).2⟩⟩
  have hbl : (ad.add i).block = ad.block := by unfold Addr.add; split <;> rfl
  exact (hb.cell (by rw [hbl]; exact hlt)).trans (hc i hi).1
namespace Va
/-- the document's example -/
def ex : List Nat := [7, 7, 5]
theorem ex_r : ∀ t ∈ ex, t < 18446744073709551616 := by
  intro t ht
  simp only [ex, List.mem_cons, List.not_mem_nil, or_false] at ht
  omega
theorem w0 : way ⟨0, 0, 64, 0⟩ (7 ^^^ 0) = 0 := by decide
theorem w1 : way ⟨1, 7, 64, 0⟩ (7 ^^^ 7) = 1 := by decide
theorem w2 : way ⟨2, 7, 64, 0⟩ (5 ^^^ 7) = 3 := by decide
theorem ex_next0 : (⟨0, 0, 64, 0⟩ : S).next 7 = ⟨1, 7, 64, 0⟩ := by unfold S.next; rw [w0]; rfl
theorem ex_next1 : (⟨1, 7, 64, 0⟩ : S).next 7 = ⟨2, 7, 64, 0⟩ := by unfold S.next; rw [w1]; rfl
theorem ex_lead : lead (5 ^^^ 7) = 62 := by decide
theorem ex_trail : trail (5 ^^^ 7) = 1 := by decide
theorem ex_next2 : (⟨2, 7, 64, 0⟩ : S).next 5 = ⟨3, 5, 62, 1⟩ := by
  unfold S.next
  rw [w2, if_pos rfl, ex_lead, ex_trail]
theorem ex_cost0 : (⟨0, 0, 64, 0⟩ : S).cost 7 = 64 := by unfold S.cost; rw [w0]; rfl
theorem ex_cost1 : (⟨1, 7, 64, 0⟩ : S).cost 7 = 1 := by unfold S.cost; rw [w1]; rfl
theorem ex_cost2 : (⟨2, 7, 64, 0⟩ : S).cost 5 = 15 := by unfold S.cost; rw [w2, ex_next2]; rfl
theorem ok_lit (n v : Nat) (hn : n ≤ 1000) (hv : v < 1000) : (⟨n, v, 64, 0⟩ : S).ok := ⟨by show v < _; omega, by show n ≤ _; omega, .inl ⟨rfl, rfl⟩⟩
theorem ex_read : read (Bit.text (bits (fun i => ex.getD i 0) 3)) 3 = some ex :=
  (read_bits _ 3 (by omega) (fun i hi => ex_r _ (by
    obtain rfl | rfl | rfl : i = 0 ∨ i = 1 ∨ i = 2 := by omega
    all_goals simp [ex]))).trans rfl
end Va
set_option maxRecDepth 100000 in
set_option maxHeartbeats 2000000 in
theorem works_any (w : World) (hT : TabOk w) :
    Calls Tryd.prog 8 #[] w fun e w' => e = .returned (.bool true) ∧ Below w.heap.size w w' := by
  have HT := Lib.hid hT; clear hT
  go_enter Tryd.func8, Tryd.ntmps8
  go_wp2_with fail
  refine (NewWriter_any _).mono ?_; rintro e w2 ⟨rfl, hw2⟩
  have hwr : WrAt w2 w.heap.size w.heap.size none 0 [] := by rw [hw2]; exact WrAt.new w _
  have hb2 : Below w.heap.size w w2 := by rw [hw2]; exact (Below.refl _ _).alloc (Nat.le_refl _) _
  have HWr := Lib.hid hwr; have HB2 := Lib.hid hb2; clear hwr hb2 hw2
  have HT2 : Hid (TabOk w2) := Lib.hid (HT.out.later HB2.out)
  go_wp2_with fail
  have hput := vPut_any w.heap.size w.heap.size none 0 [] (by simp) ⟨0, 0, 64, 0⟩ (Va.ok_lit _ _ (by omega) (by omega)) (by show 0 < _; omega) 7 (by omega) w2 HT2.out HWr.out HB2.out.size
  refine hput.mono ?_
  clear hput
  rintro e w3 ⟨rfl, A3, cap3, hw3, hN3, hF3⟩
  rw [List.nil_append] at hw3
  rw [Va.ex_next0, show (⟨1, 7, 64, 0⟩ : Va.S).val = .agg #[.int .i64 1, .int .u64 7, .int .i64 64, .int .i64 0] from rfl]
  have HB3 := Lib.hid (HB2.out.trans (hF3.below HB2.out.size (putSet_base HWr.out (Nat.le_refl _))))
  have HW3 := Lib.hid hw3
  clear hw3 hF3 hN3
  have hgp : w.heap.size < w3.heap.size := HW3.out.lt
  go_upto_region 5 with fail
  have hal : Below w3.heap.size w3 (w3.alloc (.cells #[.int .i64 1, .int .u64 7, .int .i64 64, .int .i64 0] 31)) := (Below.refl _ _).alloc (Nat.le_refl _) _
  have HS4 : Hid (VStAt (w3.alloc (.cells #[.int .i64 1, .int .u64 7, .int .i64 64, .int .i64 0] 31)) w3.heap.size ⟨1, 7, 64, 0⟩) := Lib.hid (RowIs.one _ _)
  have HW4 := Lib.hid (HW3.out.later hal); have HB4 := Lib.hid (HB3.out.trans (hal.mono HB3.out.size))
  generalize w3.alloc (.cells #[.int .i64 1, .int .u64 7, .int .i64 64, .int .i64 0] 31) = w4 at *
  generalize w3.heap.size = g at *
  clear hal
  have HT4 : Hid (TabOk w4) := Lib.hid (HT.out.later HB4.out)
  obtain ⟨a0, a1, a2, a3⟩ := HS4.out.cells
  go_wp2_with fail
  refine (Len_any _ HW4.out).mono ?_; rintro e wx ⟨rfl, rfl⟩
  rw [show ((⟨0, 0, 64, 0⟩ : Va.S).code 7).length = 64 from by rw [Va.S.code_length, Va.ex_cost0]]
  go_wp2_with fail
  have hput := vPut_any w.heap.size w.heap.size A3 cap3 _ (by rw [Va.S.code_length, Va.ex_cost0]; omega) ⟨1, 7, 64, 0⟩ (Va.ok_lit _ _ (by omega) (by omega)) (by show 1 < _; omega) 7 (by omega) wx HT4.out HW4.out HB4.out.size
  refine hput.mono ?_
  clear hput
  rintro e w5 ⟨rfl, A5, cap5, hw5, hN5, hF5⟩
  rw [Va.ex_next1, show (⟨2, 7, 64, 0⟩ : Va.S).val = .agg #[.int .i64 2, .int .u64 7, .int .i64 64, .int .i64 0] from rfl]
  have HS5 : Hid (VStAt w5 g ⟨1, 7, 64, 0⟩) := Lib.hid ((hF5.same _ HS4.out.lt (vrow_not HW4.out HS4.out (by decide) (by omega))).trans HS4.out)
  have HB5 := Lib.hid (HB4.out.trans (hF5.below HB4.out.size (putSet_base HW4.out (Nat.le_refl _))))
  have HW5 := Lib.hid hw5
  clear hw5 hF5 hN5 a0 a1 a2 a3
  have hgp5 : w.heap.size < w5.heap.size := HW5.out.lt
  have hgg5 : g < w5.heap.size := HS5.out.lt
  go_upto_region 7 with fail
  have hal : Below w5.heap.size w5 (w5.alloc (.cells #[.int .i64 2, .int .u64 7, .int .i64 64, .int .i64 0] 31)) := (Below.refl _ _).alloc (Nat.le_refl _) _
  have HU6 : Hid (VStAt (w5.alloc (.cells #[.int .i64 2, .int .u64 7, .int .i64 64, .int .i64 0] 31)) w5.heap.size ⟨2, 7, 64, 0⟩) := Lib.hid (RowIs.one _ _)
  have HW6 := Lib.hid (HW5.out.later hal); have HB6 := Lib.hid (HB5.out.trans (hal.mono HB5.out.size)); have HS6 := Lib.hid (HS5.out.later hal)
  generalize w5.alloc (.cells #[.int .i64 2, .int .u64 7, .int .i64 64, .int .i64 0] 31) = w6 at *
  generalize w5.heap.size = g5 at *
  clear hal
  have HT6 : Hid (TabOk w6) := Lib.hid (HT.out.later HB6.out)
  obtain ⟨a0, a1, a2, a3⟩ := HU6.out.cells
  go_wp2_with fail
  refine (Len_any _ HW6.out).mono ?_; rintro e wx ⟨rfl, rfl⟩
  have hl6 : ((⟨0, 0, 64, 0⟩ : Va.S).code 7 ++ (⟨1, 7, 64, 0⟩ : Va.S).code 7).length = 65 := by rw [List.length_append, Va.S.code_length, Va.S.code_length, Va.ex_cost0, Va.ex_cost1]
  rw [hl6]
  have HL6 := Lib.hid hl6; clear hl6
  go_wp2_with fail
  have hput := vPut_any w.heap.size w.heap.size A5 cap5 _ (by rw [HL6.out]; omega) ⟨2, 7, 64, 0⟩ (Va.ok_lit _ _ (by omega) (by omega)) (by show 2 < _; omega) 5 (by omega) wx HT6.out HW6.out HB6.out.size
  refine hput.mono ?_
  clear hput
  rintro e w7 ⟨rfl, A7, cap7, hw7, hN7, hF7⟩
  rw [Va.ex_next2, show (⟨3, 5, 62, 1⟩ : Va.S).val = .agg #[.int .i64 3, .int .u64 5, .int .i64 62, .int .i64 1] from rfl]
  have HS7 : Hid (VStAt w7 g ⟨1, 7, 64, 0⟩) := Lib.hid ((hF7.same _ HS6.out.lt (vrow_not HW6.out HS6.out (by decide) (by omega))).trans HS6.out)
  have HB7 := Lib.hid (HB6.out.trans (hF7.below HB6.out.size (putSet_base HW6.out (Nat.le_refl _))))
  have HW7 := Lib.hid hw7
  clear hw7 hF7 hN7 a0 a1 a2 a3
  have hgg7 : g < w7.heap.size := HS7.out.lt
  go_upto_region 9 with fail
  have hal : Below w7.heap.size w7 (w7.alloc (.cells #[.int .i64 3, .int .u64 5, .int .i64 62, .int .i64 1] 31)) := (Below.refl _ _).alloc (Nat.le_refl _) _
  have HU8 : Hid (VStAt (w7.alloc (.cells #[.int .i64 3, .int .u64 5, .int .i64 62, .int .i64 1] 31)) w7.heap.size ⟨3, 5, 62, 1⟩) := Lib.hid (RowIs.one _ _)
  have HW8 := Lib.hid (HW7.out.later hal); have HB8 := Lib.hid (HB7.out.trans (hal.mono HB7.out.size)); have HS8 := Lib.hid (HS7.out.later hal)
  generalize w7.alloc (.cells #[.int .i64 3, .int .u64 5, .int .i64 62, .int .i64 1] 31) = w8 at *
  generalize w7.heap.size = g7 at *
  clear hal
  go_wp2_with fail
  have hal : Below w8.heap.size w8 (w8.alloc (.cells #[.int .u64 7, .int .u64 7, .int .u64 5] 29)) := (Below.refl _ _).alloc (Nat.le_refl _) _
  have HR9 : Hid (IntRow (w8.alloc (.cells #[.int .u64 7, .int .u64 7, .int .u64 5] 29)) (some ⟨w8.heap.size, 0, none⟩) 3 .u64 (fun i => ((Va.ex.getD i 0 : Nat) : Int))) := Lib.hid (natRow_lit (t := 29) Va.ex (RowIs.one _ _) Va.ex_r)
  have HW9 := Lib.hid (HW8.out.later hal); have HB9 := Lib.hid (HB8.out.trans (hal.mono HB8.out.size)); have HS9 := Lib.hid (HS8.out.later hal); have HU9 := Lib.hid (HU8.out.later hal)
  generalize w8.alloc (.cells #[.int .u64 7, .int .u64 7, .int .u64 5] 29) = w9 at *
  have HT9 : Hid (TabOk w9) := Lib.hid (HT.out.later HB9.out)
  clear hal
  refine (vAll_any w9 HT9.out _ 3 3 (fun i => Va.ex.getD i 0) (by omega) HR9.out).mono ?_; rintro e w10 ⟨rfl, hb10⟩
  have HW10 := Lib.hid (HW9.out.later hb10); have HB10 := Lib.hid (HB9.out.trans (hb10.mono HB9.out.size)); have HS10 := Lib.hid (HS9.out.later hb10); have HU10 := Lib.hid (HU9.out.later hb10)
  have HT10 : Hid (TabOk w10) := Lib.hid (HT.out.later HB10.out)
  clear hb10
  go_wp2_with fail
  have hread := vRead_any (Bit.text (Va.bits (fun i => Va.ex.getD i 0) 3)) (by
    rw [Bit.text_size]
    have := Va.bits_length (fun i => Va.ex.getD i 0) 3
    omega) 3 w10 HT10.out
  refine hread.mono ?_
  clear hread
  rintro e w11 ⟨A, cap, l, o, rfl, hb11, hrow, ⟨rfl, hr⟩ | ⟨_, _, hr⟩⟩
  · rw [Va.ex_read] at hr
    obtain rfl := Option.some.inj hr
    clear hr
    rw [show Va.ex.length = 3 from rfl] at *
    have HW11 := Lib.hid (HW10.out.later hb11); have HB11 := Lib.hid (HB10.out.trans (hb11.mono HB10.out.size)); have HS11 := Lib.hid (HS10.out.later hb11); have HU11 := Lib.hid (HU10.out.later hb11)
    have HR11 := Lib.hid hrow
    have HT11 : Hid (TabOk w11) := Lib.hid (HT.out.later HB11.out)
    clear hb11 hrow
    obtain ⟨a0, a1, a2, a3⟩ := HS11.out.cells
    go_wp2_with fail
    have hcost := vCost_any ⟨1, 7, 64, 0⟩ (Va.ok_lit _ _ (by omega) (by omega)) (by show 1 < _; omega) 7 (by omega) w11 HT11.out
    refine hcost.mono ?_; clear hcost; rintro e w12 ⟨rfl, hb12⟩
    rw [Va.ex_cost1]
    have HW12 := Lib.hid (HW11.out.later hb12); have HB12 := Lib.hid (HB11.out.trans (hb12.mono HB11.out.size)); have HS12 := Lib.hid (HS11.out.later hb12); have HU12 := Lib.hid (HU11.out.later hb12); have HR12 := Lib.hid (HR11.out.later hb12)
    clear hb12 a0 a1 a2 a3
    obtain ⟨a0, a1, a2, a3⟩ := HU12.out.cells
    go_wp2_with fail
    refine (Len_any _ HW12.out).mono ?_; rintro e wx ⟨rfl, rfl⟩
    rw [show ((⟨0, 0, 64, 0⟩ : Va.S).code 7 ++ (⟨1, 7, 64, 0⟩ : Va.S).code 7 ++ (⟨2, 7, 64, 0⟩ : Va.S).code 5).length = 80 from by rw [List.length_append, HL6.out, Va.S.code_length, Va.ex_cost2]]
    go_wp2_with fail
    have hal : Below wx.heap.size wx (wx.alloc (.cells #[.int .u64 7, .int .u64 7, .int .u64 5] 29)) := (Below.refl _ _).alloc (Nat.le_refl _) _
    have hr13 : IntRow (wx.alloc (.cells #[.int .u64 7, .int .u64 7, .int .u64 5] 29)) (some ⟨wx.heap.size, 0, none⟩) 3 .u64 (fun i => ((Va.ex.getD i 0 : Nat) : Int)) := natRow_lit (t := 29) Va.ex (RowIs.one _ _) Va.ex_r
    have hr12 := HR12.out.later hal
    have HB13 := Lib.hid (HB12.out.trans (hal.mono HB12.out.size)); have HS13 := Lib.hid (HS12.out.later hal)
    refine (rvSame_any _ _ _ 3 cap 3 3 _ _ (by omega) (by omega) hr12 hr13 true ⟨fun _ => ⟨rfl, fun _ _ => rfl⟩, fun _ => rfl⟩).mono ?_
    rintro e w14 ⟨rfl, hd⟩
    have HB14 := Lib.hid (HB13.out.grown (hd.grown none) HB13.out.size (fun r e => by cases e))
    have HS14 : Hid (VStAt w14 g ⟨1, 7, 64, 0⟩) := Lib.hid (by unfold VStAt; rw [hd.heap]; exact HS13.out)
    clear hal hr13 hr12 hd a0 a1 a2 a3
    obtain ⟨a0, a1, a2, a3⟩ := HS14.out.cells
    have hv1 := fun W => Valid_any 1 7 64 0 W
    rw [show Va.validB 1 64 0 = true from by decide] at hv1
    have hv2 := fun W => Valid_any 0 0 63 1 W
    rw [show Va.validB 0 63 1 = false from by decide] at hv2
    have HV1 := Lib.hid hv1; have HV2 := Lib.hid hv2; clear hv1 hv2
    go_wp2_with fail
    refine (HV1.out _).mono ?_; rintro e w15 ⟨rfl, hb15⟩
    have HB15 := Lib.hid (HB14.out.trans (hb15.mono HB14.out.size)); clear hb15
    go_wp2_with fail
    refine (HV2.out _).mono ?_; rintro e w16 ⟨rfl, hb16⟩
    have HB16 := Lib.hid (HB15.out.trans (hb16.mono HB15.out.size)); clear hb16
    go_wp2_with fail
    go_ret
    exact ⟨rfl, HB16.out⟩
  · rw [Va.ex_read] at hr; cases hr
end Go.Proofs.YtahdfcflgicpkaaDoor
