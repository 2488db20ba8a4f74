/-
  What works of the laws comes to.
-/
import Derived.Test.YtopdhcbhhkajpaaDoorStS
namespace Go.Proofs.YtopdhcbhhkajpaaDoor
open Go.RowKit

theorem intRow_lit {W : World} {g : Nat} {t : TypeId} (l : List Int) (h : W.heap[g]? = some (.cells (intVals l).toArray t (0, 0))) (hr : ∀ t ∈ l, St.inR t) : IntRow W (some ⟨g, 0, none⟩) l.length .i64 (fun i => l.getD i 0) := by
  intro _
  refine ⟨⟨g, 0, none⟩, rfl, (Array.getElem?_eq_some_iff.1 h).1, fun i hi => ?_⟩
  have hc : W.cell? ((⟨g, 0, none⟩ : Addr).add i) = some (.int .i64 (l.getD i 0)) := by
    have := cell_of_row W g i _ _ _ h
    rw [show ((⟨g, 0, none⟩ : Addr).add i) = ⟨g, i, none⟩ from by simp [Addr.add]; exact fun h => h.symm]
    rw [this]
    simp [intVals, List.getD, hi]
  refine ⟨hc, ?_⟩
  have := hr (l.getD i 0) (by simp [List.getD, hi])
  unfold St.inR at this
  show (Lit.int .i64 (l.getD i 0)).wf = true
  generalize l.getD i 0 = t at *
  simp [Lit.wf, IntKind.min, IntKind.max, IntKind.signed, IntKind.bits]; omega
theorem IntRow.later {W W2 : World} {A : Option Addr} {n : Nat} {k : IntKind} {f : Nat → Int} (h : IntRow W A n k f) (hb : Below W.heap.size W W2) : IntRow W2 A n k f := fun hn => by
  obtain ⟨ad, e, hlt, hc⟩ := h hn
  refine ⟨ad, e, Nat.lt_of_lt_of_le hlt hb.size, fun i hi => ⟨?_, (hc i hi).2⟩⟩
  have hbl : (ad.add i).block = ad.block := by unfold Addr.add; split <;> rfl
  exact (hb.cell (by rw [hbl]; exact hlt)).trans (hc i hi).1
/-- the document's example -/
def St.ex : List Int := [1000, 1010, 1020]
theorem St.ex_r : ∀ t ∈ St.ex, St.inR t := by
  intro t ht
  simp only [St.ex, List.mem_cons, List.not_mem_nil, or_false] at ht
  unfold St.inR
  omega
theorem St.ex_next0 : (⟨0, 0, 0⟩ : St.S).next 1000 = ⟨1, 1000, 0⟩ := by simp [St.S.next]
theorem St.ex_next1 : (⟨1, 1000, 0⟩ : St.S).next 1010 = ⟨2, 1010, 10⟩ := by simp [St.S.next, St.sw, wrap64]
theorem St.ex_cost0 : (⟨0, 0, 0⟩ : St.S).cost 1000 = 64 := by simp [St.S.cost]
theorem St.ex_cost1 : (⟨1, 1000, 0⟩ : St.S).cost 1010 = 9 := by simp [St.S.cost, St.S.change, St.sw, wrap64, St.cls, St.marks, St.size]
theorem St.ex_cost2 : (⟨2, 1010, 10⟩ : St.S).cost 1020 = 1 := by simp [St.S.cost, St.S.change, St.sw, wrap64, St.cls, St.marks, St.size]
theorem St.ex_read : St.read (Bit.text (St.bits (fun i => St.ex.getD i 0) 3)) 3 = some St.ex :=
  (St.read_bits _ 3 (by omega) (fun i hi => St.ex_r _ (by
    obtain rfl | rfl | rfl : i = 0 ∨ i = 1 ∨ i = 2 := by omega
    all_goals simp [St.ex]))).trans rfl

set_option maxRecDepth 100000 in
set_option maxHeartbeats 1000000 in
theorem works_any (w : World) (hT : ClsOk w) :
    Calls Tryd.prog 10 #[] w fun e w' => e = .returned (.bool true) ∧ Below w.heap.size w w' := by
  have HT := Lib.hid hT; clear hT
  go_enter Tryd.func10, Tryd.ntmps10
  go_wp2_with fail
  refine (NewWriter_any _).mono ?_; rintro e w2 ⟨rfl, hw2⟩
  have hwr : WrAt w2 w.heap.size w.heap.size none 0 [] := by rw [hw2]; exact WrAt.new w _
  have hb2 : Below w.heap.size w w2 := by rw [hw2]; exact (Below.refl _ _).alloc (Nat.le_refl _) _
  have HWr := Lib.hid hwr; have HB2 := Lib.hid hb2; clear hwr hb2 hw2
  have HT2 : Hid (ClsOk w2) := Lib.hid (HT.out.later HB2.out)
  go_wp2_with fail
  refine (stPut_any w.heap.size w.heap.size none 0 [] (by simp) ⟨0, 0, 0⟩ 1000 w2 HT2.out HWr.out HB2.out.size).mono ?_
  rintro e w3 ⟨rfl, A3, cap3, hw3, hN3, hF3⟩
  rw [List.nil_append] at hw3
  rw [St.ex_next0]
  rw [show (⟨1, 1000, 0⟩ : St.S).val = .agg #[.int .i64 1, .int .i64 1000, .int .i64 0] from rfl]
  have hb3 : Below w.heap.size w w3 := HB2.out.trans (hF3.below HB2.out.size (putSet_base HWr.out (Nat.le_refl _)))
  have HW3 := Lib.hid hw3; have HB3 := Lib.hid hb3
  clear hw3 hF3 hN3 hb3
  have hgp : w.heap.size < w3.heap.size := HW3.out.lt
  go_upto_region 5 with fail
  have hal : Below w3.heap.size w3 (w3.alloc (.cells #[.int .i64 1, .int .i64 1000, .int .i64 0] 23)) := (Below.refl _ _).alloc (Nat.le_refl _) _
  have HS4 : Hid (StateAt (w3.alloc (.cells #[.int .i64 1, .int .i64 1000, .int .i64 0] 23)) w3.heap.size ⟨1, 1000, 0⟩) := Lib.hid (RowIs.one _ _)
  have HW4 := Lib.hid (HW3.out.later hal); have HB4 := Lib.hid (HB3.out.trans (hal.mono HB3.out.size))
  generalize w3.alloc (.cells #[.int .i64 1, .int .i64 1000, .int .i64 0] 23) = w4 at *
  generalize w3.heap.size = g at *
  clear hal
  have HT4 : Hid (ClsOk w4) := Lib.hid (HT.out.later HB4.out)
  obtain ⟨a0, a1, a2⟩ := HS4.out.cells
  go_wp2_with fail
  refine (Len_any _ HW4.out).mono ?_; rintro e wx ⟨rfl, rfl⟩
  rw [show ((⟨0, 0, 0⟩ : St.S).code 1000).length = 64 from by rw [St.S.code_length, St.ex_cost0]]
  go_wp2_with fail
  have hput := stPut_any w.heap.size w.heap.size A3 cap3 _ (by rw [St.S.code_length, St.ex_cost0]; omega) ⟨1, 1000, 0⟩ 1010 wx HT4.out HW4.out HB4.out.size
  refine hput.mono ?_
  clear hput
  rintro e w5 ⟨rfl, A5, cap5, hw5, hN5, hF5⟩
  rw [St.ex_next1, show (⟨2, 1010, 10⟩ : St.S).val = .agg #[.int .i64 2, .int .i64 1010, .int .i64 10] from rfl]
  have hs5 : StateAt w5 g ⟨1, 1000, 0⟩ := (hF5.same _ HS4.out.lt (row_not HW4.out HS4.out (by decide) (by omega))).trans HS4.out
  have hb5 : Below w.heap.size w w5 := HB4.out.trans (hF5.below HB4.out.size (putSet_base HW4.out (Nat.le_refl _)))
  have hgr := grown_three w5 g 0 1 2 (.int .i64 2) (.int .i64 1010) (.int .i64 10)
  have HS6 := Lib.hid (hs5.set 2 1010 10)
  have HB6 := Lib.hid (hb5.grown hgr hb5.size (fun r e => by cases e; omega))
  have HW6 : Hid (WrAt (((w5.setCell ⟨g, 0, none⟩ (.int .i64 2)).setCell ⟨g, 1, none⟩ (.int .i64 1010)).setCell ⟨g, 2, none⟩ (.int .i64 10)) w.heap.size w.heap.size A5 cap5 _) := Lib.hid (RowAt.keep hw5 (hgr.block _ hw5.lt (by simp; omega)) (fun r hr => hgr.block _ (by subst hr; exact (row_block hw5.own rfl).2.1) (by
    have hne : r ≠ g := by subst hr; exact own_ne hw5.own hs5 (by decide)
    simp; omega)))
  obtain ⟨b0, b1, b2⟩ := hs5.cells
  obtain ⟨f0, f1, f2⟩ := hs5.free
  clear a0 a1 a2 hw5 hF5 hN5 hs5 hb5 hgr
  go_upto_region 7 with fail
  generalize ((w5.setCell ⟨g, 0, none⟩ (.int .i64 2)).setCell ⟨g, 1, none⟩ (.int .i64 1010)).setCell ⟨g, 2, none⟩ (.int .i64 10) = w6 at *
  clear b0 b1 b2 f0 f1 f2
  have HT6 : Hid (ClsOk w6) := Lib.hid (HT.out.later HB6.out)
  obtain ⟨a0, a1, a2⟩ := HS6.out.cells
  go_wp2_with fail
  refine (Len_any _ HW6.out).mono ?_; rintro e wx ⟨rfl, rfl⟩
  rw [List.length_append, St.S.code_length, St.S.code_length, St.ex_cost0, St.ex_cost1]
  go_wp2_with fail
  refine (cost_any ⟨2, 1010, 10⟩ 1020 _ HT6.out).mono ?_; rintro e w7 ⟨rfl, hb7⟩
  rw [St.ex_cost2]
  have HS7 := Lib.hid (HS6.out.later hb7); have HB7 := Lib.hid (HB6.out.trans (hb7.mono HB6.out.size))
  clear hb7 a0 a1 a2
  go_wp2_with fail
  have hal : Below w7.heap.size w7 (w7.alloc (.cells #[.int .i64 1000, .int .i64 1010, .int .i64 1020] 2)) := (Below.refl _ _).alloc (Nat.le_refl _) _
  have HR8 : Hid (IntRow (w7.alloc (.cells #[.int .i64 1000, .int .i64 1010, .int .i64 1020] 2)) (some ⟨w7.heap.size, 0, none⟩) 3 .i64 (fun i => St.ex.getD i 0)) := Lib.hid (intRow_lit (t := 2) St.ex (RowIs.one _ _) St.ex_r)
  have HS8 := Lib.hid (HS7.out.later hal); have HB8 := Lib.hid (HB7.out.trans (hal.mono HB7.out.size))
  generalize w7.alloc (.cells #[.int .i64 1000, .int .i64 1010, .int .i64 1020] 2) = w8 at *
  have HT8 : Hid (ClsOk w8) := Lib.hid (HT.out.later HB8.out)
  refine (stAll_any w8 HT8.out _ 3 3 _ (by omega) HR8.out).mono ?_; rintro e w9 ⟨rfl, hb9⟩
  have HS9 := Lib.hid (HS8.out.later hb9); have HB9 := Lib.hid (HB8.out.trans (hb9.mono HB8.out.size))
  have HT9 : Hid (ClsOk w9) := Lib.hid (HT.out.later HB9.out)
  clear hb9 hal
  go_wp2_with fail
  have hread := stRead_any (Bit.text (St.bits (fun i => St.ex.getD i 0) 3)) (by
    rw [Bit.text_size]
    have := St.bits_length (fun i => St.ex.getD i 0) 3
    omega) 3 w9 HT9.out
  refine hread.mono ?_
  clear hread
  rintro e w10 ⟨A, cap, l, o, rfl, hb10, hrow, ⟨rfl, hr⟩ | ⟨_, _, hr⟩⟩
  · rw [St.ex_read] at hr
    obtain rfl := Option.some.inj hr
    clear hr
    rw [show St.ex.length = 3 from rfl] at *
    have HS10 := Lib.hid (HS9.out.later hb10); have HB10 := Lib.hid (HB9.out.trans (hb10.mono HB9.out.size))
    have HR10 := Lib.hid hrow
    clear hb10 hrow
    obtain ⟨a0, a1, a2⟩ := HS10.out.cells
    go_wp2_with fail
    have hal : Below w10.heap.size w10 (w10.alloc (.cells #[.int .i64 1000, .int .i64 1010, .int .i64 1020] 2)) := (Below.refl _ _).alloc (Nat.le_refl _) _
    have hr11 : IntRow (w10.alloc (.cells #[.int .i64 1000, .int .i64 1010, .int .i64 1020] 2)) (some ⟨w10.heap.size, 0, none⟩) 3 .i64 (fun i => St.ex.getD i 0) := intRow_lit (t := 2) St.ex (RowIs.one _ _) St.ex_r
    have hr10 := HR10.out.later hal
    have HB11 := Lib.hid (HB10.out.trans (hal.mono HB10.out.size))
    refine (rSame_any _ _ _ 3 cap 3 3 _ _ (by omega) (by omega) hr10 hr11 true ⟨fun _ => ⟨rfl, fun _ _ => rfl⟩, fun _ => rfl⟩).mono ?_
    rintro e w12 ⟨rfl, hd⟩
    have HB12 := Lib.hid (HB11.out.grown (hd.grown none) HB11.out.size (fun r e => by cases e))
    clear hal hr11 hr10 hd
    go_wp2_with fail
    go_ret
    exact ⟨rfl, HB12.out⟩
  · rw [St.ex_read] at hr; cases hr
end Go.Proofs.YtopdhcbhhkajpaaDoor
