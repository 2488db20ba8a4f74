/-
  What read of package stamp comes to.
-/
import Derived.Test.YtopdhcbhhkajpaaDoorStK
namespace Go.Proofs.YtopdhcbhhkajpaaDoor
open Go.RowKit

theorem ClsOk.not_reader {w : World} {p x : Nat} {s : ByteArray} (h : ClsOk w) (hr : RdAt w p s x) : 1 ≤ p := by
  rcases Nat.eq_zero_or_pos p with h0 | h0
  · subst h0
    have h1 := h 0 (by omega) 0 (by omega)
    have h2 := cell_of_row _ _ 0 _ _ _ hr
    simp only [St.cell, List.getD_cons_zero, Nat.zero_mul, Nat.zero_add] at h1
    rw [h1] at h2
    simp at h2
  · exact h0
theorem ClsOk.pos {w : World} (h : ClsOk w) : 1 ≤ w.heap.size := by
  have h1 := h 0 (by omega) 0 (by omega)
  have := block_lt_of_cell h1
  exact this
theorem ClsOk.far {w W : World} {p : Nat} (h : ClsOk w) (hf : Far w W (OneSet p)) (hp : 1 ≤ p) : ClsOk W := fun k hk j hj => by
  have hb := hf.below (base := 1) h.pos (fun k hk => by have : k = p := hk; omega)
  have h0 := h k hk j hj
  exact (hb.cell (p := ⟨0, k * 6 + j, none⟩) Nat.one_pos).trans h0
theorem ClsOk.drewN {w : World} (h : ClsOk w) (m : Nat) : ClsOk (w.drewN m) := h
theorem StateAt.cells {W : World} {g : Nat} {s : St.S} (h : StateAt W g s) : W.cell? ⟨g, 0, none⟩ = some (.int .i64 s.n) ∧ W.cell? ⟨g, 1, none⟩ = some (.int .i64 s.t) ∧ W.cell? ⟨g, 2, none⟩ = some (.int .i64 s.d) :=
  ⟨cell_of_row _ _ 0 _ _ _ h, cell_of_row _ _ 1 _ _ _ h, cell_of_row _ _ 2 _ _ _ h⟩
theorem StateAt.far {W W2 : World} {g p : Nat} {s : St.S} (h : StateAt W g s) (hf : Far W W2 (OneSet p)) (hne : g ≠ p) : StateAt W2 g s :=
  (hf.same g (Array.getElem?_eq_some_iff.1 h).1 (fun e => hne e)).trans h

set_option maxRecDepth 100000 in
set_option maxHeartbeats 1000000 in
theorem stRead1_any (p : Nat) (b : ByteArray) (hb : b.size ≤ 137438953472) (q : Nat) (hq : q ≤ 8 * b.size) (s : St.S) (w : World) (hT : ClsOk w) (hr : RdAt w p b q) :
    Calls Tryd.prog 39 #[.pointer (some ⟨p, 0, none⟩), s.val] w fun e w' => ∃ (t : Int) (o : Bool), e = .returned (.tuple #[.int .i64 t, .bool o]) ∧ Far w w' (OneSet p) ∧
      ((o = true ∧ s.got ((Bit.bits b).drop q) = some t ∧ RdAt w' p b (q + s.cost t)) ∨ (o = false ∧ s.got ((Bit.bits b).drop q) = none ∧ ∃ q2, q2 ≤ 8 * b.size ∧ RdAt w' p b q2)) := by
  have hp1 := hT.not_reader hr
  have hpl : p < w.heap.size := hr.lt
  have hbl : ((Bit.bits b).drop q).length = 8 * b.size - q := by rw [List.length_drop, Bit.bits_length]
  have hT1 : ClsOk (w.alloc (.cells #[.int .i64 s.n, .int .i64 s.t, .int .i64 s.d] 23)) := hT.later ((Below.refl _ _).alloc (Nat.le_refl _) _)
  have hr1 : RdAt (w.alloc (.cells #[.int .i64 s.n, .int .i64 s.t, .int .i64 s.d] 23)) p b q := hr.below ((Below.refl _ _).alloc (Nat.le_refl _) _)
  have hs1 : StateAt (w.alloc (.cells #[.int .i64 s.n, .int .i64 s.t, .int .i64 s.d] 23)) w.heap.size s := RowIs.one _ _
  have hf1 : Far w (w.alloc (.cells #[.int .i64 s.n, .int .i64 s.t, .int .i64 s.d] 23)) (OneSet p) := far_of_below ((Below.refl _ _).alloc (Nat.le_refl _) _) _
  have HT1 := Lib.hid hT1; have HR1 := Lib.hid hr1; have HS1 := Lib.hid hs1; have HF1 := Lib.hid hf1
  clear hT hr hT1 hr1 hs1 hf1
  unfold St.S.val
  by_cases hn : s.n = 0
  · have e0 : (s.n == 0) = true := by simp [hn]
    have hgot : s.got ((Bit.bits b).drop q) = if ((Bit.bits b).drop q).length < 64 then none else some (St.sw (Bit.val (((Bit.bits b).drop q).take 64))) := by unfold St.S.got; rw [if_pos hn]
    have hcost : ∀ t, s.cost t = 64 := fun t => by unfold St.S.cost; rw [if_pos hn]
    have HG := Lib.hid hgot; clear hgot hn
    go_enter Tryd.func39, Tryd.ntmps39
    go_wp2_with fail
    by_cases hl : 8 * b.size < q + 64
    · refine (Get_no p b hb q hq 64 _ HR1.out hl).mono ?_; rintro e w2 ⟨rfl, hb2⟩
      have HR2 := Lib.hid (HR1.out.below hb2); have HF2 := Lib.hid (HF1.out.more (far_of_below hb2 _)); clear hb2
      go_wp2_with fail
      go_ret2
      refine ⟨_, _, rfl, HF2.out, .inr ⟨rfl, ?_, q, hq, HR2.out⟩⟩
      rw [HG.out, if_pos (by rw [hbl]; omega)]
    · refine (Get_yes p b hb q 64 _ HR1.out (by show q + 64 ≤ _; omega)).mono ?_; rintro e w2 ⟨rfl, hr2, hf2⟩
      have HR2 : Hid (RdAt w2 p b (q + 64)) := Lib.hid hr2; have HF2 := Lib.hid (HF1.out.more hf2); clear hr2 hf2
      rw [show Bit.wd 64 = 64 from rfl]
      generalize Bit.val (((Bit.bits b).drop q).take 64) = v at *
      go_wp2_with fail
      go_ret2
      refine ⟨_, _, rfl, HF2.out, .inl ⟨rfl, ?_, ?_⟩⟩
      · rw [HG.out, if_neg (by rw [hbl]; omega)]; rfl
      · rw [hcost]; exact HR2.out
  · have e0 : (s.n == 0) = false := by simp [hn]
    have hgot : s.got ((Bit.bits b).drop q) = match St.markOf ((Bit.bits b).drop q) with
      | none => none
      | some i => if ((Bit.bits b).drop q).length < St.marks i + St.size i then none else
        if St.cls (St.told i (Bit.val ((((Bit.bits b).drop q).drop (St.marks i)).take (St.size i)))) = i then some (St.sw (St.sw (s.t + s.d) + St.told i (Bit.val ((((Bit.bits b).drop q).drop (St.marks i)).take (St.size i))))) else none := by
      unfold St.S.got; rw [if_neg hn]; cases St.markOf _ <;> rfl
    have hcost : ∀ c, -9223372036854775808 ≤ c ∧ c < 9223372036854775808 → s.cost (St.sw (St.sw (s.t + s.d) + c)) = St.marks (St.cls c) + St.size (St.cls c) := fun c hc => by
      unfold St.S.cost; rw [if_neg hn, St.back_change s c hc]
    have HG := Lib.hid hgot; have HC := Lib.hid hcost; clear hgot hcost
    go_enter Tryd.func39, Tryd.ntmps39
    go_wp2_with fail
    refine (readMark_any p b hb q hq _ HR1.out).mono ?_; rintro e w2 ⟨i, o, rfl, hf2, ⟨rfl, hm, hr2⟩ | ⟨rfl, hm, q2, hq2, hr2⟩⟩
    · have HR2 := Lib.hid hr2; have HF2 := Lib.hid (HF1.out.more hf2)
      have HT2 : Hid (ClsOk w2) := Lib.hid (ClsOk.far HT1.out hf2 hp1)
      have HS2 : Hid (StateAt w2 w.heap.size s) := Lib.hid (HS1.out.far hf2 (by omega))
      clear hr2 hf2
      obtain ⟨hi5, hLm⟩ := St.markOf_some hm
      have hml : St.marks i ≤ 8 * b.size - q := by
        have := congrArg List.length hLm
        rw [List.length_append, St.mk_length, hbl] at this; omega
      have HG2 : Hid (s.got ((Bit.bits b).drop q) = if 8 * b.size - q < St.marks i + St.size i then none else if St.cls (St.told i (Bit.val (((Bit.bits b).drop (q + St.marks i)).take (St.size i)))) = i then some (St.sw (St.sw (s.t + s.d) + St.told i (Bit.val (((Bit.bits b).drop (q + St.marks i)).take (St.size i))))) else none) :=
        Lib.hid (by rw [HG.out, hm, hbl]; simp only [List.drop_drop])
      clear hm hLm
      have c5 := HT2.out i hi5 5 (by omega)
      simp only [St.cell, List.getD_cons_zero, List.getD_cons_succ] at c5
      have hzw : Bit.wd ((St.size i : Nat) : Int) = St.size i := by have := St.size_le i; unfold Bit.wd; omega
      have HP : Hid (∀ v : Nat, St.told i v = wrap64 (wrap64 v - St.plus i)) := Lib.hid (fun v => rfl)
      have HTR := Lib.hid (St.told_range i)
      have hszl := St.size_le i
      have HC2 : Hid (∀ c, -9223372036854775808 ≤ c ∧ c < 9223372036854775808 → St.cls c = i → s.cost (St.sw (St.sw (s.t + s.d) + c)) = St.marks i + St.size i) := Lib.hid (fun c hc h => by rw [HC.out c hc, h])
      generalize hsz : St.size i = sz at *
      generalize St.marks i = ms at *
      go_wp2_with fail
      by_cases hl : 8 * b.size < q + ms + sz
      · refine (Get_no p b hb (q + ms) (by omega) (sz : Int) _ HR2.out (by rw [hzw]; exact hl)).mono ?_; rintro e w3 ⟨rfl, hb3⟩
        have HR3 := Lib.hid (HR2.out.below hb3); have HF3 := Lib.hid (HF2.out.more (far_of_below hb3 _))
        have HT3 : Hid (ClsOk w3) := Lib.hid (HT2.out.later hb3)
        have HS3 : Hid (StateAt w3 w.heap.size s) := Lib.hid ((hb3.block _ (Array.getElem?_eq_some_iff.1 HS2.out).1).trans HS2.out)
        clear hb3
        have c2 := HT3.out i hi5 2 (by omega)
        simp only [St.cell, List.getD_cons_zero, List.getD_cons_succ] at c2
        obtain ⟨-, s1, s2⟩ := HS3.out.cells
        generalize St.plus i = pl at *
        go_wp2_with fail
        go_quiet (fail)
        go_wp2_with fail
        go_ret2
        refine ⟨_, _, rfl, HF3.out.grownNone (DrewOf.grown ⟨_, rfl⟩ none), .inr ⟨rfl, ?_, q + ms, by omega, HR3.out⟩⟩
        rw [HG2.out, if_pos (by omega)]
      · refine (Get_yes p b hb (q + ms) (sz : Int) _ HR2.out (by rw [hzw]; omega)).mono ?_; rintro e w3 ⟨rfl, hr3, hf3⟩
        rw [hzw] at hr3
        rw [hzw]
        have HR3 := Lib.hid hr3; have HF3 := Lib.hid (HF2.out.more hf3)
        have HT3 : Hid (ClsOk w3) := Lib.hid (ClsOk.far HT2.out hf3 hp1)
        have HS3 : Hid (StateAt w3 w.heap.size s) := Lib.hid (HS2.out.far hf3 (by omega))
        clear hr3 hf3
        have c2 := HT3.out i hi5 2 (by omega)
        simp only [St.cell, List.getD_cons_zero, List.getD_cons_succ] at c2
        obtain ⟨-, s1, s2⟩ := HS3.out.cells
        generalize Bit.val (((Bit.bits b).drop (q + ms)).take sz) = v at *
        have hc := HP.out v
        have hcr := HTR.out v
        generalize St.told i v = c at *
        have hcl := fun m => classOf_any c (w3.drewN m) (HT3.out.drewN m)
        have hk5 := St.cls_lt c
        have HCr := Lib.hid hcr; clear hcr
        generalize hkc : St.cls c = k at *
        have HKC := Lib.hid hkc; clear hkc
        generalize St.plus i = pl at *
        go_wp2_with fail
        rw [← hc]
        clear hc HP
        by_cases hki : k = i
        · have e9 : ((k : Int) == (i : Int)) = true := by simp [hki]
          have HKI := Lib.hid hki; clear hki
          go_quiet (refine Calls.quiet_of_same (hcl _))
          go_wp2_with fail
          go_ret2
          refine ⟨_, _, rfl, HF3.out.grownNone (DrewOf.grown ⟨_, rfl⟩ none), .inl ⟨rfl, ?_, ?_⟩⟩
          · rw [HG2.out, if_neg (by omega), if_pos HKI.out]; rfl
          · have := HC2.out c HCr.out (HKC.out.trans HKI.out)
            show RdAt w3 p b (q + s.cost (St.sw (St.sw (s.t + s.d) + c)))
            rw [this, ← Nat.add_assoc]; exact HR3.out
        · have e9 : ((k : Int) == (i : Int)) = false := by simp; omega
          have HKI := Lib.hid hki; clear hki
          go_quiet (refine Calls.quiet_of_same (hcl _))
          go_wp2_with fail
          go_ret2
          refine ⟨_, _, rfl, HF3.out.grownNone (DrewOf.grown ⟨_, rfl⟩ none), .inr ⟨rfl, ?_, q + ms + sz, by omega, ?_⟩⟩
          · rw [HG2.out, if_neg (by omega), if_neg HKI.out]
          · show RdAt w3 p b _
            exact HR3.out
    · have HR2 := Lib.hid hr2; have HF2 := Lib.hid (HF1.out.more hf2); clear hr2 hf2
      go_wp2_with fail
      go_ret2
      refine ⟨_, _, rfl, HF2.out, .inr ⟨rfl, ?_, q2, hq2, HR2.out⟩⟩
      rw [HG.out, hm]
end Go.Proofs.YtopdhcbhhkajpaaDoor
