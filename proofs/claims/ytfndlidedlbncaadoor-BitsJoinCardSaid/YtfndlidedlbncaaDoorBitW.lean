/-
  What works of the laws comes to.
-/
import Derived.Test.YtfndlidedlbncaaDoorBitL
namespace Go.Proofs.YtfndlidedlbncaaDoor
open Go.RowKit

theorem WrAt.lt {W : World} {base p cap : Nat} {A : Option Addr} {B : List Bool} (h : WrAt W base p A cap B) : p < W.heap.size := (Array.getElem?_eq_some_iff.1 h.cells).1
theorem RdAt.lt {W : World} {p x : Nat} {s : ByteArray} (h : RdAt W p s x) : p < W.heap.size := (Array.getElem?_eq_some_iff.1 h).1
theorem RdAt.far {W W2 : World} {p x : Nat} {s : ByteArray} {S : Nat → Prop} (h : RdAt W p s x) (hf : Far W W2 S) (hs : ¬ S p) : RdAt W2 p s x := (hf.same p h.lt hs).trans h
theorem RdAt.below {W W2 : World} {p x : Nat} {s : ByteArray} (h : RdAt W p s x) (hb : Below W.heap.size W W2) : RdAt W2 p s x := (hb.block p h.lt).trans h
theorem RdAt.drewOf {W W2 : World} {p x : Nat} {s : ByteArray} (h : RdAt W p s x) (hb : DrewOf W W2) : RdAt W2 p s x := by unfold RdAt; rw [hb.heap]; exact h
/-- the row of a writer is no block of another kind -/
theorem WrAt.not_reader {W : World} {base p cap r x : Nat} {A : Option Addr} {B : List Bool} {s : ByteArray} (h : WrAt W base p A cap B) (hr : RdAt W r s x) : ¬ PutSet p A r := by
  rintro (rfl | h2)
  · have := h.cells.symm.trans hr
    simp at this
  · cases A with
    | none => cases h2
    | some a =>
      obtain ⟨h3, _, _⟩ := row_block h.own (g := a.block) rfl
      have h4 : a.block = r := by simpa using h2
      rw [h4] at h3
      rw [h3] at h
      exact own_ne h.own hr (by decide) rfl
theorem WrAt.far {W W2 : World} {base p cap : Nat} {A : Option Addr} {B : List Bool} {S : Nat → Prop} (h : WrAt W base p A cap B) (hf : Far W W2 S) (hp : ¬ S p) (hA : ∀ g, A = some ⟨g, 0, none⟩ → ¬ S g) : WrAt W2 base p A cap B :=
  RowAt.keep h (hf.same p h.lt hp) (fun g hg => hf.same g (by
    subst hg
    exact (row_block h.own rfl).2.1) (hA g hg))
theorem WrAt.later {W W2 : World} {base p cap : Nat} {A : Option Addr} {B : List Bool} (h : WrAt W base p A cap B) (hb : Below W.heap.size W W2) : WrAt W2 base p A cap B := RowAt.later h (fun k hk => hb.block k hk)
theorem putSet_base {W : World} {base p cap : Nat} {A : Option Addr} {B : List Bool} (h : WrAt W base p A cap B) (hp : base ≤ p) : ∀ k, PutSet p A k → base ≤ k := by
  rintro k (rfl | h2)
  · exact hp
  · cases A with
    | none => cases h2
    | some a =>
      have h3 : a.block = k := by simpa using h2
      rcases h.own.2 with ⟨h4, _⟩ | ⟨g, c, cur, hv, hb, _⟩
      · cases h4
      · simp only [Value.slice.injEq, Option.some.injEq] at hv
        rw [hv.1] at h3
        exact h3 ▸ hb
theorem WrAt.get {W W2 : World} {base p cap r x : Nat} {A : Option Addr} {B : List Bool} {s : ByteArray} (h : WrAt W base p A cap B) (hr : RdAt W r s x) (hf : Far W W2 (OneSet r)) : WrAt W2 base p A cap B := by
  have hn := h.not_reader hr
  refine h.far hf (fun e => hn (.inl (show r = p from (show p = r from e).symm))) (fun g hg e => hn (.inr ?_))
  subst hg
  have : g = r := e
  simp [this]
/-- a writer, a reader, and what lay below them -/
structure Pair (w W : World) (p : Nat) (A : Option Addr) (cap : Nat) (B : List Bool) (r : Nat) (s : ByteArray) (x : Nat) : Prop where
  wr : WrAt W w.heap.size p A cap B
  rd : RdAt W r s x
  bel : Below w.heap.size w W
  hp : w.heap.size ≤ p
  hr : w.heap.size ≤ r
theorem Pair.put {w W W2 : World} {p cap cap2 r x : Nat} {A A2 : Option Addr} {B B2 : List Bool} {s : ByteArray} (h : Pair w W p A cap B r s x) (h2 : WrAt W2 w.heap.size p A2 cap2 B2) (hf : Far W W2 (PutSet p A)) : Pair w W2 p A2 cap2 B2 r s x :=
  ⟨h2, h.rd.far hf (h.wr.not_reader h.rd), h.bel.trans (hf.below h.bel.size (putSet_base h.wr h.hp)), h.hp, h.hr⟩
theorem Pair.get {w W W2 : World} {p cap r x y : Nat} {A : Option Addr} {B : List Bool} {s : ByteArray} (h : Pair w W p A cap B r s x) (h2 : RdAt W2 r s y) (hf : Far W W2 (OneSet r)) : Pair w W2 p A cap B r s y :=
  ⟨h.wr.get h.rd hf, h2, h.bel.trans (hf.below h.bel.size (fun k hk => by have : k = r := hk; have := h.hr; omega)), h.hp, h.hr⟩
theorem Pair.later {w W W2 : World} {p cap r x : Nat} {A : Option Addr} {B : List Bool} {s : ByteArray} (h : Pair w W p A cap B r s x) (hb : Below W.heap.size W W2) : Pair w W2 p A cap B r s x :=
  ⟨h.wr.later hb, h.rd.below hb, h.bel.trans (hb.mono h.bel.size), h.hp, h.hr⟩
theorem Pair.drewOf {w W W2 : World} {p cap r x : Nat} {A : Option Addr} {B : List Bool} {s : ByteArray} (h : Pair w W p A cap B r s x) (hd : DrewOf W W2) : Pair w W2 p A cap B r s x :=
  h.later ((Below.refl W.heap.size W).grown (hd.grown none) (Nat.le_refl _) (fun r e => by cases e))
theorem TabOk.later {w W : World} (h : TabOk w) (hb : Below w.heap.size w W) : TabOk W := fun j hj => by
  have h0 := h j hj
  exact (hb.cell (block_lt_of_cell h0)).trans h0

theorem ex_text2 : Bit.text ([] ++ Bit.of 5 (Bit.wd 3) ++ Bit.of 1 (Bit.wd 2)) = ⟨#[168]⟩ := by decide +kernel

set_option maxRecDepth 100000 in
set_option maxHeartbeats 4000000 in
theorem works_any (w : World) (hT : TabOk w) :
    Calls Tryd.prog 9 #[] w fun e w' => e = .returned (.bool true) ∧ Below w.heap.size w w' := by
  have HT := Lib.hid hT; clear hT
  go_enter Tryd.func9, Tryd.ntmps9
  go_wp2_with fail
  refine (NewWriter_any _).mono ?_; rintro e w1 ⟨rfl, hw1⟩
  have hb1 : Below w.heap.size w w1 := by rw [hw1]; exact (Below.refl _ _).alloc (Nat.le_refl _) _
  have hz1 : w1.heap.size = w.heap.size + 1 := by rw [hw1]; simp
  have hwr1 : WrAt w1 w.heap.size w.heap.size none 0 [] := by rw [hw1]; exact WrAt.new w _
  have HB1 := Lib.hid hb1; have HZ1 := Lib.hid hz1; have HW1 := Lib.hid hwr1
  clear hw1 hb1 hz1 hwr1
  have hcv := arr_take (P := Tryd.prog) (w1.alloc (.cells #[.int .u8 168] 5)) w1.heap.size 47 5 9 5 [168] Tryd.underlying47 Tryd.underlying5 Tryd.underlying9 (heap_alloc_new w1 _) 1 1 (by decide)
  go_wp2_with fail
  clear hcv
  refine (NewReader_any _ _).mono ?_; rintro e w2 ⟨rfl, hw2⟩
  have hr2 : (w1.alloc (.cells #[.int .u8 168] 5)).heap.size = w.heap.size + 2 := by simp [HZ1.out]
  have hp2 : Pair w w2 w.heap.size none 0 [] (w.heap.size + 2) ⟨#[168]⟩ 0 := by
    have b2 : Below w1.heap.size w1 w2 := by rw [hw2]; exact ((Below.refl _ _).alloc (Nat.le_refl _) _).alloc (by simp) _
    exact ⟨HW1.out.later b2, by rw [hw2, ← hr2]; exact heap_alloc_new _ _, HB1.out.trans (b2.mono HB1.out.size), Nat.le_refl _, by omega⟩
  rw [hr2]
  have HP2 := Lib.hid hp2; clear hp2 hw2 hr2
  have x1 : Bit.val (((Bit.bits ⟨#[168]⟩).drop 0).take (Bit.wd 3)) = 5 := by decide +kernel
  have x2 : Bit.val (((Bit.bits ⟨#[168]⟩).drop (0 + Bit.wd 3)).take (Bit.wd 2)) = 1 := by decide +kernel
  have X1 := Lib.hid x1; have X2 := Lib.hid x2; clear x1 x2
  go_wp2_with fail
  refine (Put_any _ _ _ _ _ (by decide) 5 (Lib.hid (by decide)) 3 _ HP2.out.wr HP2.out.bel.size).mono ?_; rintro e w3 ⟨rfl, A3, cap3, q1, q2, q3⟩
  have HP3 := Lib.hid (HP2.out.put q1 q3); clear q1 q2 q3
  go_wp2_with fail
  refine (Put_any _ _ _ _ _ (by decide) 1 (Lib.hid (by decide)) 2 _ HP3.out.wr HP3.out.bel.size).mono ?_; rintro e w4 ⟨rfl, A4, cap4, q1, q2, q3⟩
  have HP4 := Lib.hid (HP3.out.put q1 q3); clear q1 q2 q3
  go_wp2_with fail
  refine (Get_yes _ _ (by decide) _ 3 _ HP4.out.rd (by decide)).mono ?_; rintro e w5 ⟨rfl, q1, q2⟩
  have HP5 := Lib.hid (HP4.out.get q1 q2); clear q1 q2
  rw [X1.out]
  go_wp2_with fail
  refine (Get_yes _ _ (by decide) _ 2 _ HP5.out.rd (by decide)).mono ?_; rintro e w6 ⟨rfl, q1, q2⟩
  have HP6 := Lib.hid (HP5.out.get q1 q2); clear q1 q2
  rw [X2.out]
  go_wp2_with fail
  refine (Clean_any _ _ (by decide) _ (by decide) _ HP6.out.rd true (by decide +kernel)).mono ?_; rintro e w7 ⟨rfl, q1⟩
  have HP7 := Lib.hid (HP6.out.later q1); clear q1
  go_wp2_with fail
  refine (Get_no _ _ (by decide) _ (by decide) 4 _ HP7.out.rd (by decide)).mono ?_; rintro e w8 ⟨rfl, q1⟩
  have HP8 := Lib.hid (HP7.out.later q1); clear q1
  go_wp2_with fail
  have hs9 : Pair w w8.drew w.heap.size A4 cap4 ([] ++ Bit.of 5 (Bit.wd 3) ++ Bit.of 1 (Bit.wd 2)) (w.heap.size + 2) ⟨#[168]⟩ (0 + Bit.wd 3 + Bit.wd 2) := HP8.out.later ((Below.refl _ _).drew)
  have HP9 := Lib.hid hs9; clear hs9
  refine plain_held (fun U => Pair w U w.heap.size A4 cap4 ([] ++ Bit.of 5 (Bit.wd 3) ++ Bit.of 1 (Bit.wd 2)) (w.heap.size + 2) ⟨#[168]⟩ (0 + Bit.wd 3 + Bit.wd 2)) (by kernel_rfl) ?_
  refine wpAnyH_pickQ (by kernel_rfl) Only.panic Only.keepsIn HP9.out [0, 1] 47 _ _ (by kernel_rfl) ?_
  refine PickQ.value (d := some 41) (.pointer (some ⟨w.heap.size, 0, none⟩)) rfl rfl (by kernel_rfl) (fun U _ => by kernel_rfl) ?_
  refine PickQ.call (d := some 42) (.string ⟨#[168]⟩) 14 #[.pointer (some ⟨w.heap.size, 0, none⟩)] rfl rfl (by kernel_rfl) (fun U _ => by kernel_rfl) (fun U hU => by have h := Bytes_any U hU.wr; rw [ex_text2] at h; exact h) ?_
  simp only [PickQ, Act.put, List.setIfInBounds_toArray]
  refine wpAnyH_one (i := 2) (by kernel_rfl) rfl (by kernel_rfl) ?_
  intro K hK
  unfold Oper.wp
  go_simp
  have hs10 : Pair w (w8.alloc (.cells #[.int .u8 168] 5)).drew w.heap.size A4 cap4 ([] ++ Bit.of 5 (Bit.wd 3) ++ Bit.of 1 (Bit.wd 2)) (w.heap.size + 2) ⟨#[168]⟩ (0 + Bit.wd 3 + Bit.wd 2) := HP8.out.later (((Below.refl _ _).alloc (Nat.le_refl _) _).drew)
  have HP10 := Lib.hid hs10; clear hs10
  refine hK _ _ HP10.out (fun _ => ?_)
  clear hK K
  have hcv := arr_take (P := Tryd.prog) (w8.alloc (.cells #[.int .u8 168] 5)).drew w8.heap.size 47 5 9 5 [168] Tryd.underlying47 Tryd.underlying5 Tryd.underlying9 (heap_alloc_new w8 _) 1 1 (by decide)
  refine wpAnyH_one (i := 3) (by kernel_rfl) rfl (by kernel_rfl) ?_
  intro K hK
  unfold Oper.wp
  go_simp
  refine hK _ _ HP10.out (fun _ => ?_)
  clear hK K hcv
  refine wpAnyH_pickQ (by kernel_rfl) Only.panic Only.keepsIn HP10.out [4, 5, 6, 7, 8, 9, 10, 11, 12, 13, 14, 15, 16, 17, 18, 19, 20, 21, 22, 23, 24, 25, 26, 27, 28, 29, 30, 31, 32] 16 _ _ (by kernel_rfl) ?_
  refine PickQ.value (d := some 45) (.bool true) rfl rfl (by kernel_rfl) (fun U _ => by kernel_rfl) ?_
  refine PickQ.value (d := some 46) (.bool true) rfl rfl (by kernel_rfl) (fun U _ => by kernel_rfl) ?_
  refine PickQ.value (d := some 47) (.pointer (some ⟨w.heap.size, 0, none⟩)) rfl rfl (by kernel_rfl) (fun U _ => by kernel_rfl) ?_
  refine PickQ.call (d := some 48) (.int .i64 5) 13 #[.pointer (some ⟨w.heap.size, 0, none⟩)] rfl rfl (by kernel_rfl) (fun U _ => by kernel_rfl) (fun U hU => Len_any U hU.wr) ?_
  refine PickQ.value (d := some 49) (.bool true) rfl rfl (by kernel_rfl) (fun U _ => by kernel_rfl) ?_
  refine PickQ.value (d := some 50) (.bool true) rfl rfl (by kernel_rfl) (fun U _ => by kernel_rfl) ?_
  refine PickQ.value (d := some 51) (.bool true) rfl rfl (by kernel_rfl) (fun U _ => by kernel_rfl) ?_
  refine PickQ.value (d := some 52) (.int .u64 5) rfl rfl (by kernel_rfl) (fun U _ => by kernel_rfl) ?_
  refine PickQ.value (d := some 53) (.bool true) rfl rfl (by kernel_rfl) (fun U _ => by kernel_rfl) ?_
  refine PickQ.value (d := some 54) (.bool true) rfl rfl (by kernel_rfl) (fun U _ => by kernel_rfl) ?_
  refine PickQ.value (d := some 55) (.bool true) rfl rfl (by kernel_rfl) (fun U _ => by kernel_rfl) ?_
  refine PickQ.value (d := some 56) (.bool true) rfl rfl (by kernel_rfl) (fun U _ => by kernel_rfl) ?_
  refine PickQ.value (d := some 57) (.bool true) rfl rfl (by kernel_rfl) (fun U _ => by kernel_rfl) ?_
  refine PickQ.value (d := some 58) (.bool true) rfl rfl (by kernel_rfl) (fun U _ => by kernel_rfl) ?_
  refine PickQ.value (d := some 59) (.int .u64 1) rfl rfl (by kernel_rfl) (fun U _ => by kernel_rfl) ?_
  refine PickQ.value (d := some 60) (.bool true) rfl rfl (by kernel_rfl) (fun U _ => by kernel_rfl) ?_
  refine PickQ.value (d := some 61) (.bool true) rfl rfl (by kernel_rfl) (fun U _ => by kernel_rfl) ?_
  refine PickQ.value (d := some 62) (.bool true) rfl rfl (by kernel_rfl) (fun U _ => by kernel_rfl) ?_
  refine PickQ.value (d := some 63) (.bool true) rfl rfl (by kernel_rfl) (fun U _ => by kernel_rfl) ?_
  refine PickQ.value (d := some 64) (.bool true) rfl rfl (by kernel_rfl) (fun U _ => by kernel_rfl) ?_
  refine PickQ.value (d := some 65) (.bool true) rfl rfl (by kernel_rfl) (fun U _ => by kernel_rfl) ?_
  refine PickQ.value (d := some 66) (.bool true) rfl rfl (by kernel_rfl) (fun U _ => by kernel_rfl) ?_
  refine PickQ.value (d := some 67) (.bool true) rfl rfl (by kernel_rfl) (fun U _ => by kernel_rfl) ?_
  refine PickQ.value (d := some 68) (.bool true) rfl rfl (by kernel_rfl) (fun U _ => by kernel_rfl) ?_
  refine PickQ.value (d := some 69) (.bool false) rfl rfl (by kernel_rfl) (fun U _ => by kernel_rfl) ?_
  refine PickQ.value (d := some 70) (.bool true) rfl rfl (by kernel_rfl) (fun U _ => by kernel_rfl) ?_
  refine PickQ.value (d := some 71) (.bool true) rfl rfl (by kernel_rfl) (fun U _ => by kernel_rfl) ?_
  refine PickQ.value (d := some 72) (.bool true) rfl rfl (by kernel_rfl) (fun U _ => by kernel_rfl) ?_
  refine PickQ.value (d := some 73) (.pointer (some ⟨w.heap.size + 2, 0, none⟩)) rfl rfl (by kernel_rfl) (fun U _ => by kernel_rfl) ?_
  simp only [PickQ, Act.put, List.setIfInBounds_toArray]
  refine wpAnyH_one (i := 33) (by kernel_rfl) rfl (by kernel_rfl) ?_
  intro K hK
  unfold Oper.wp
  go_simp
  refine (Left_any _ _ (by decide) _ (by decide) _ HP10.out.rd).mono ?_; rintro e w9 ⟨rfl, hd⟩
  have HP11 := Lib.hid (HP10.out.drewOf hd); clear hd
  refine hK _ _ HP11.out (fun _ => ?_)
  clear hK K
  refine wpAnyH_pickQ (by kernel_rfl) Only.panic Only.keepsIn HP11.out [34, 35, 36, 37, 38, 39, 40, 41, 42, 43, 44, 45, 46, 47, 48] 0 _ _ (by kernel_rfl) ?_
  refine PickQ.value (d := some 75) (.bool true) rfl rfl (by kernel_rfl) (fun U _ => by kernel_rfl) ?_
  refine PickQ.value (d := some 76) (.bool true) rfl rfl (by kernel_rfl) (fun U _ => by kernel_rfl) ?_
  refine PickQ.value (d := some 77) (.bool true) rfl rfl (by kernel_rfl) (fun U _ => by kernel_rfl) ?_
  refine PickQ.call (d := some 78) (.int .i64 63) 23 #[.int .u64 1] rfl rfl (by kernel_rfl) (fun U _ => by kernel_rfl) (fun U hU => Lead_any 1 (by decide) U) ?_
  refine PickQ.value (d := some 79) (.bool true) rfl rfl (by kernel_rfl) (fun U _ => by kernel_rfl) ?_
  refine PickQ.value (d := some 80) (.bool true) rfl rfl (by kernel_rfl) (fun U _ => by kernel_rfl) ?_
  refine PickQ.value (d := some 81) (.bool true) rfl rfl (by kernel_rfl) (fun U _ => by kernel_rfl) ?_
  refine PickQ.call (d := some 82) (.int .i64 3) 24 #[.int .u64 8] rfl rfl (by kernel_rfl) (fun U _ => by kernel_rfl) (fun U hU => Trail_any 8 (by decide) U (HT.out.later hU.bel)) ?_
  refine PickQ.value (d := some 83) (.bool true) rfl rfl (by kernel_rfl) (fun U _ => by kernel_rfl) ?_
  refine PickQ.value (d := some 84) (.bool true) rfl rfl (by kernel_rfl) (fun U _ => by kernel_rfl) ?_
  refine PickQ.value (d := some 85) (.bool true) rfl rfl (by kernel_rfl) (fun U _ => by kernel_rfl) ?_
  refine PickQ.call (d := some 86) (.int .i64 64) 23 #[.int .u64 0] rfl rfl (by kernel_rfl) (fun U _ => by kernel_rfl) (fun U hU => Lead_any 0 (by decide) U) ?_
  refine PickQ.value (d := some 87) (.bool true) rfl rfl (by kernel_rfl) (fun U _ => by kernel_rfl) ?_
  refine PickQ.value (d := some 88) (.bool true) rfl rfl (by kernel_rfl) (fun U _ => by kernel_rfl) ?_
  refine PickQ.value (d := some 0) (.bool true) rfl rfl (by kernel_rfl) (fun U _ => by kernel_rfl) ?_
  simp only [PickQ, Act.put, List.setIfInBounds_toArray]
  refine wpAnyH_done (by kernel_rfl) ?_ _
  refine Only.next ?_
  go_wp2_with fail
  go_ret
  exact ⟨by kernel_rfl, HP11.out.bel⟩
end Go.Proofs.YtfndlidedlbncaaDoor
