import Derived.Test.YtfgcgjogaaofdaaGreatDoorStJ
/-
  What readMark of package stamp comes to.
-/
namespace Go.Proofs.YtfgcgjogaaofdaaGreatDoor
open Go.RowKit

set_option maxRecDepth 100000 in
set_option maxHeartbeats 1000000 in
theorem readMark_any (p : Nat) (s : ByteArray) (hs : s.size ≤ 137438953472) (q : Nat) (hq : q ≤ 8 * s.size) (w : World) (hr : RdAt w p s q) :
    Calls Tryz.prog 99 #[.pointer (some ⟨p, 0, none⟩)] w fun e w' => ∃ (i : Nat) (o : Bool), e = .returned (.tuple #[.int .i64 i, .bool o]) ∧ Far w w' (OneSet p) ∧
      ((o = true ∧ St.markOf ((Bit.bits s).drop q) = some i ∧ RdAt w' p s (q + St.marks i)) ∨ (o = false ∧ St.markOf ((Bit.bits s).drop q) = none ∧ ∃ q2, q2 ≤ 8 * s.size ∧ RdAt w' p s q2)) := by
  have HR := Lib.hid hr; clear hr
  have hbl : (Bit.bits s).length = 8 * s.size := Bit.bits_length s
  go_enter Tryz.func99, Tryz.ntmps99
  go_wp2_with fail
  go_loopw [7] (fun i wr => ∃ (k : Nat), k ≤ 4 ∧ i = .int .i64 k ∧ q + k ≤ 8 * s.size ∧ (Bit.bits s).drop q = List.replicate k true ++ (Bit.bits s).drop (q + k) ∧ RdAt wr p s (q + k) ∧ Far w wr (OneSet p)) (fun i _ => 4 - (intOf i).toNat)
  case atStart => exact ⟨0, by omega, rfl, by omega, rfl, HR.out, Far.refl _ _⟩
  case round =>
    obtain ⟨k, hk, rfl, hqk, hL, hrd, hf⟩ := hrel
    have HRd := Lib.hid hrd; have HF := Lib.hid hf; have HL := Lib.hid hL; clear hrd hf hL
    by_cases h4 : k < 4
    · rcases Nat.lt_or_ge (q + k) (8 * s.size) with hlt | hge
      · obtain ⟨b, hb1, hb2⟩ := Bit.drop_get (Bit.bits s) (q + k) (by omega)
        have HB1 := Lib.hid hb1; clear hb1
        go_wp2_with fail
        refine (Get_yes p s hs (q + k) 1 _ HRd.out (by show q + k + 1 ≤ _; omega)).mono ?_; rintro e w4 ⟨he, hr4, hf4⟩
        rw [show Bit.wd 1 = 1 from rfl, hb2] at he
        have HR4 : Hid (RdAt w4 p s (q + k + 1)) := Lib.hid hr4; have HF4 := Lib.hid (HF.out.more hf4); clear hr4 hf4 hb2
        cases b
        · subst he
          have e0 : (((Bool.toNat false : Nat) : Int) == 0) = true := rfl
          go_wp2_with fail
          go_ret2
          refine ⟨k, true, rfl, HF4.out, .inl ⟨rfl, ?_, ?_⟩⟩
          · rw [HL.out, HB1.out]; exact St.run_false k h4 _
          · have : St.marks k = k + 1 := by obtain rfl | rfl | rfl | rfl : k = 0 ∨ k = 1 ∨ k = 2 ∨ k = 3 := by omega
                                            all_goals rfl
            rw [this]; exact HR4.out
        · subst he
          have e0 : (((Bool.toNat true : Nat) : Int) == 0) = false := rfl
          go_wp2_with fail
          go_roundw
          case rel => exact ⟨k + 1, by omega, by go_num, by omega, by rw [HL.out, HB1.out]; exact St.run_next _ _, HR4.out, HF4.out⟩
          case measure => simp [intOf]; omega
      · go_wp2_with fail
        refine (Get_no p s hs (q + k) (by omega) 1 _ HRd.out (by show _ < q + k + 1; omega)).mono ?_; rintro e w4 ⟨rfl, hb4⟩
        have HR4 := Lib.hid (HRd.out.below hb4); have HF4 := Lib.hid (HF.out.more (far_of_below hb4 _)); clear hb4
        go_wp2_with fail
        go_ret2
        refine ⟨0, false, rfl, HF4.out, .inr ⟨rfl, ?_, q + k, by omega, HR4.out⟩⟩
        rw [HL.out, List.drop_of_length_le (by omega), List.append_nil]
        exact St.run_end k h4
    · obtain rfl : k = 4 := by omega
      go_wp2_with fail
      go_ret2
      refine ⟨4, true, rfl, HF.out, .inl ⟨rfl, ?_, HRd.out⟩⟩
      rw [HL.out]; exact St.run_four _
end Go.Proofs.YtfgcgjogaaofdaaGreatDoor
/-
  What read of package stamp comes to.
-/
namespace Go.Proofs.YtfgcgjogaaofdaaGreatDoor
open Go.RowKit

theorem ClsOk.not_reader {w : World} {p x : Nat} {s : ByteArray} (h : ClsOk w) (hr : RdAt w p s x) : 1 ≤ p := by
  rcases Nat.eq_zero_or_pos p with h0 | h0
  · subst h0
    have h1 := h 0 (by omega) 0 (by omega)
    have h2 := cell_of_row _ _ 0 _ _ _ hr
    simp only [St.cell, List.getD_cons_zero, Nat.zero_mul, Nat.zero_add] at h1
    rw [h1] at h2
    simp at h2
  · exact h0
theorem ClsOk.pos {w : World} (h : ClsOk w) : 1 ≤ w.heap.size := by
  have h1 := h 0 (by omega) 0 (by omega)
  have := block_lt_of_cell h1
  exact this
theorem ClsOk.far {w W : World} {p : Nat} (h : ClsOk w) (hf : Far w W (OneSet p)) (hp : 1 ≤ p) : ClsOk W := fun k hk j hj => by
  have hb := hf.below (base := 1) h.pos (fun k hk => by have : k = p := hk; omega)
  have h0 := h k hk j hj
  exact (hb.cell (p := ⟨0, k * 6 + j, none⟩) Nat.one_pos).trans h0
theorem ClsOk.drewN {w : World} (h : ClsOk w) (m : Nat) : ClsOk (w.drewN m) := h
theorem StateAt.cells {W : World} {g : Nat} {s : St.S} (h : StateAt W g s) : W.cell? ⟨g, 0, none⟩ = some (.int .i64 s.n) ∧ W.cell? ⟨g, 1, none⟩ = some (.int .i64 s.t) ∧ W.cell? ⟨g, 2, none⟩ = some (.int .i64 s.d) :=
  ⟨cell_of_row _ _ 0 _ _ _ h, cell_of_row _ _ 1 _ _ _ h, cell_of_row _ _ 2 _ _ _ h⟩
theorem StateAt.far {W W2 : World} {g p : Nat} {s : St.S} (h : StateAt W g s) (hf : Far W W2 (OneSet p)) (hne : g ≠ p) : StateAt W2 g s :=
  (hf.same g (Array.getElem?_eq_some_iff.1 h).1 (fun e => hne e)).trans h

set_option maxRecDepth 100000 in
set_option maxHeartbeats 1000000 in
theorem stRead1_any (p : Nat) (b : ByteArray) (hb : b.size ≤ 137438953472) (q : Nat) (hq : q ≤ 8 * b.size) (s : St.S) (w : World) (hT : ClsOk w) (hr : RdAt w p b q) :
    Calls Tryz.prog 89 #[.pointer (some ⟨p, 0, none⟩), s.val] w fun e w' => ∃ (t : Int) (o : Bool), e = .returned (.tuple #[.int .i64 t, .bool o]) ∧ Far w w' (OneSet p) ∧
      ((o = true ∧ s.got ((Bit.bits b).drop q) = some t ∧ RdAt w' p b (q + s.cost t)) ∨ (o = false ∧ s.got ((Bit.bits b).drop q) = none ∧ ∃ q2, q2 ≤ 8 * b.size ∧ RdAt w' p b q2)) := by
  have hp1 := hT.not_reader hr
  have hpl : p < w.heap.size := hr.lt
  have hbl : ((Bit.bits b).drop q).length = 8 * b.size - q := by rw [List.length_drop, Bit.bits_length]
  have hT1 : ClsOk (w.alloc (.cells #[.int .i64 s.n, .int .i64 s.t, .int .i64 s.d] 102)) := hT.later ((Below.refl _ _).alloc (Nat.le_refl _) _)
  have hr1 : RdAt (w.alloc (.cells #[.int .i64 s.n, .int .i64 s.t, .int .i64 s.d] 102)) p b q := hr.below ((Below.refl _ _).alloc (Nat.le_refl _) _)
  have hs1 : StateAt (w.alloc (.cells #[.int .i64 s.n, .int .i64 s.t, .int .i64 s.d] 102)) w.heap.size s := RowIs.one _ _
  have hf1 : Far w (w.alloc (.cells #[.int .i64 s.n, .int .i64 s.t, .int .i64 s.d] 102)) (OneSet p) := far_of_below ((Below.refl _ _).alloc (Nat.le_refl _) _) _
  have HT1 := Lib.hid hT1; have HR1 := Lib.hid hr1; have HS1 := Lib.hid hs1; have HF1 := Lib.hid hf1
  clear hT hr hT1 hr1 hs1 hf1
  unfold St.S.val
  by_cases hn : s.n = 0
  · have e0 : (s.n == 0) = true := by simp [hn]
    have hgot : s.got ((Bit.bits b).drop q) = if ((Bit.bits b).drop q).length < 64 then none else some (St.sw (Bit.val (((Bit.bits b).drop q).take 64))) := by unfold St.S.got; rw [if_pos hn]
    have hcost : ∀ t, s.cost t = 64 := fun t => by unfold St.S.cost; rw [if_pos hn]
    have HG := Lib.hid hgot; clear hgot hn
    go_enter Tryz.func89, Tryz.ntmps89
    go_wp2_with fail
    by_cases hl : 8 * b.size < q + 64
    · refine (Get_no p b hb q hq 64 _ HR1.out hl).mono ?_; rintro e w2 ⟨rfl, hb2⟩
      have HR2 := Lib.hid (HR1.out.below hb2); have HF2 := Lib.hid (HF1.out.more (far_of_below hb2 _)); clear hb2
      go_wp2_with fail
      go_ret2
      refine ⟨_, _, rfl, HF2.out, .inr ⟨rfl, ?_, q, hq, HR2.out⟩⟩
      rw [HG.out, if_pos (by rw [hbl]; omega)]
    · refine (Get_yes p b hb q 64 _ HR1.out (by show q + 64 ≤ _; omega)).mono ?_; rintro e w2 ⟨rfl, hr2, hf2⟩
      have HR2 : Hid (RdAt w2 p b (q + 64)) := Lib.hid hr2; have HF2 := Lib.hid (HF1.out.more hf2); clear hr2 hf2
      rw [show Bit.wd 64 = 64 from rfl]
      generalize Bit.val (((Bit.bits b).drop q).take 64) = v at *
      go_wp2_with fail
      go_ret2
      refine ⟨_, _, rfl, HF2.out, .inl ⟨rfl, ?_, ?_⟩⟩
      · rw [HG.out, if_neg (by rw [hbl]; omega)]; rfl
      · rw [hcost]; exact HR2.out
  · have e0 : (s.n == 0) = false := by simp [hn]
    have hgot : s.got ((Bit.bits b).drop q) = match St.markOf ((Bit.bits b).drop q) with
      | none => none
      | some i => if ((Bit.bits b).drop q).length < St.marks i + St.size i then none else
        if St.cls (St.told i (Bit.val ((((Bit.bits b).drop q).drop (St.marks i)).take (St.size i)))) = i then some (St.sw (St.sw (s.t + s.d) + St.told i (Bit.val ((((Bit.bits b).drop q).drop (St.marks i)).take (St.size i))))) else none := by
      unfold St.S.got; rw [if_neg hn]; cases St.markOf _ <;> rfl
    have hcost : ∀ c, -9223372036854775808 ≤ c ∧ c < 9223372036854775808 → s.cost (St.sw (St.sw (s.t + s.d) + c)) = St.marks (St.cls c) + St.size (St.cls c) := fun c hc => by
      unfold St.S.cost; rw [if_neg hn, St.back_change s c hc]
    have HG := Lib.hid hgot; have HC := Lib.hid hcost; clear hgot hcost
    go_enter Tryz.func89, Tryz.ntmps89
    go_wp2_with fail
    refine (readMark_any p b hb q hq _ HR1.out).mono ?_; rintro e w2 ⟨i, o, rfl, hf2, ⟨rfl, hm, hr2⟩ | ⟨rfl, hm, q2, hq2, hr2⟩⟩
    · have HR2 := Lib.hid hr2; have HF2 := Lib.hid (HF1.out.more hf2)
      have HT2 : Hid (ClsOk w2) := Lib.hid (ClsOk.far HT1.out hf2 hp1)
      have HS2 : Hid (StateAt w2 w.heap.size s) := Lib.hid (HS1.out.far hf2 (by omega))
      clear hr2 hf2
      obtain ⟨hi5, hLm⟩ := St.markOf_some hm
      have hml : St.marks i ≤ 8 * b.size - q := by
        have := congrArg List.length hLm
        rw [List.length_append, St.mk_length, hbl] at this; omega
      have HG2 : Hid (s.got ((Bit.bits b).drop q) = if 8 * b.size - q < St.marks i + St.size i then none else if St.cls (St.told i (Bit.val (((Bit.bits b).drop (q + St.marks i)).take (St.size i)))) = i then some (St.sw (St.sw (s.t + s.d) + St.told i (Bit.val (((Bit.bits b).drop (q + St.marks i)).take (St.size i))))) else none) :=
        Lib.hid (by rw [HG.out, hm, hbl]; simp only [List.drop_drop])
      clear hm hLm
      have c5 := HT2.out i hi5 5 (by omega)
      simp only [St.cell, List.getD_cons_zero, List.getD_cons_succ] at c5
      have hzw : Bit.wd ((St.size i : Nat) : Int) = St.size i := by have := St.size_le i; unfold Bit.wd; omega
      have HP : Hid (∀ v : Nat, St.told i v = wrap64 (wrap64 v - St.plus i)) := Lib.hid (fun v => rfl)
      have HTR := Lib.hid (St.told_range i)
      have hszl := St.size_le i
      have HC2 : Hid (∀ c, -9223372036854775808 ≤ c ∧ c < 9223372036854775808 → St.cls c = i → s.cost (St.sw (St.sw (s.t + s.d) + c)) = St.marks i + St.size i) := Lib.hid (fun c hc h => by rw [HC.out c hc, h])
      generalize hsz : St.size i = sz at *
      generalize St.marks i = ms at *
      go_wp2_with fail
      by_cases hl : 8 * b.size < q + ms + sz
      · refine (Get_no p b hb (q + ms) (by omega) (sz : Int) _ HR2.out (by rw [hzw]; exact hl)).mono ?_; rintro e w3 ⟨rfl, hb3⟩
        have HR3 := Lib.hid (HR2.out.below hb3); have HF3 := Lib.hid (HF2.out.more (far_of_below hb3 _))
        have HT3 : Hid (ClsOk w3) := Lib.hid (HT2.out.later hb3)
        have HS3 : Hid (StateAt w3 w.heap.size s) := Lib.hid ((hb3.block _ (Array.getElem?_eq_some_iff.1 HS2.out).1).trans HS2.out)
        clear hb3
        have c2 := HT3.out i hi5 2 (by omega)
        simp only [St.cell, List.getD_cons_zero, List.getD_cons_succ] at c2
        obtain ⟨-, s1, s2⟩ := HS3.out.cells
        generalize St.plus i = pl at *
        go_wp2_with fail
        go_quiet (fail)
        go_wp2_with fail
        go_ret2
        refine ⟨_, _, rfl, HF3.out.grownNone (DrewOf.grown ⟨_, rfl⟩ none), .inr ⟨rfl, ?_, q + ms, by omega, HR3.out⟩⟩
        rw [HG2.out, if_pos (by omega)]
      · refine (Get_yes p b hb (q + ms) (sz : Int) _ HR2.out (by rw [hzw]; omega)).mono ?_; rintro e w3 ⟨rfl, hr3, hf3⟩
        rw [hzw] at hr3
        rw [hzw]
        have HR3 := Lib.hid hr3; have HF3 := Lib.hid (HF2.out.more hf3)
        have HT3 : Hid (ClsOk w3) := Lib.hid (ClsOk.far HT2.out hf3 hp1)
        have HS3 : Hid (StateAt w3 w.heap.size s) := Lib.hid (HS2.out.far hf3 (by omega))
        clear hr3 hf3
        have c2 := HT3.out i hi5 2 (by omega)
        simp only [St.cell, List.getD_cons_zero, List.getD_cons_succ] at c2
        obtain ⟨-, s1, s2⟩ := HS3.out.cells
        generalize Bit.val (((Bit.bits b).drop (q + ms)).take sz) = v at *
        have hc := HP.out v
        have hcr := HTR.out v
        generalize St.told i v = c at *
        have hcl := fun m => classOf_any c (w3.drewN m) (HT3.out.drewN m)
        have hk5 := St.cls_lt c
        have HCr := Lib.hid hcr; clear hcr
        generalize hkc : St.cls c = k at *
        have HKC := Lib.hid hkc; clear hkc
        generalize St.plus i = pl at *
        go_wp2_with fail
        rw [← hc]
        clear hc HP
        by_cases hki : k = i
        · have e9 : ((k : Int) == (i : Int)) = true := by simp [hki]
          have HKI := Lib.hid hki; clear hki
          go_quiet (refine Calls.quiet_of_same (hcl _))
          go_wp2_with fail
          go_ret2
          refine ⟨_, _, rfl, HF3.out.grownNone (DrewOf.grown ⟨_, rfl⟩ none), .inl ⟨rfl, ?_, ?_⟩⟩
          · rw [HG2.out, if_neg (by omega), if_pos HKI.out]; rfl
          · have := HC2.out c HCr.out (HKC.out.trans HKI.out)
            show RdAt w3 p b (q + s.cost (St.sw (St.sw (s.t + s.d) + c)))
            rw [this, ← Nat.add_assoc]; exact HR3.out
        · have e9 : ((k : Int) == (i : Int)) = false := by simp; omega
          have HKI := Lib.hid hki; clear hki
          go_quiet (refine Calls.quiet_of_same (hcl _))
          go_wp2_with fail
          go_ret2
          refine ⟨_, _, rfl, HF3.out.grownNone (DrewOf.grown ⟨_, rfl⟩ none), .inr ⟨rfl, ?_, q + ms + sz, by omega, ?_⟩⟩
          · rw [HG2.out, if_neg (by omega), if_neg HKI.out]
          · show RdAt w3 p b _
            exact HR3.out
    · have HR2 := Lib.hid hr2; have HF2 := Lib.hid (HF1.out.more hf2); clear hr2 hf2
      go_wp2_with fail
      go_ret2
      refine ⟨_, _, rfl, HF2.out, .inr ⟨rfl, ?_, q2, hq2, HR2.out⟩⟩
      rw [HG.out, hm]
end Go.Proofs.YtfgcgjogaaofdaaGreatDoor
/-
  What Get of package stamp comes to.
-/
namespace Go.Proofs.YtfgcgjogaaofdaaGreatDoor
open Go.RowKit

theorem StateAt.lt {W : World} {g : Nat} {s : St.S} (h : StateAt W g s) : g < W.heap.size := (Array.getElem?_eq_some_iff.1 h).1
theorem StateAt.later {W W2 : World} {g : Nat} {s : St.S} (h : StateAt W g s) (hb : Below W.heap.size W W2) : StateAt W2 g s := (hb.block g h.lt).trans h
theorem StateAt.free {W : World} {g : Nat} {s : St.S} (h : StateAt W g s) : W.frozen? ⟨g, 0, none⟩ = false ∧ W.frozen? ⟨g, 1, none⟩ = false ∧ W.frozen? ⟨g, 2, none⟩ = false :=
  ⟨frozen_of_row _ _ _ _ _ h, frozen_of_row _ _ _ _ _ h, frozen_of_row _ _ _ _ _ h⟩
theorem Far.three {w W : World} {p g : Nat} {x y z : Value} (h : Far w W (OneSet p)) (hg : w.heap.size ≤ g) : Far w (((W.setCell ⟨g, 0, none⟩ x).setCell ⟨g, 1, none⟩ y).setCell ⟨g, 2, none⟩ z) (OneSet p) :=
  h.step (grown_three W g 0 1 2 x y z) (fun r e => by cases e; exact .inr hg)
theorem RdAt.three {W : World} {p q g : Nat} {b : ByteArray} {x y z : Value} (h : RdAt W p b q) (hne : p ≠ g) : RdAt (((W.setCell ⟨g, 0, none⟩ x).setCell ⟨g, 1, none⟩ y).setCell ⟨g, 2, none⟩ z) p b q :=
  ((grown_three W g 0 1 2 x y z).block p h.lt (by simp; omega)).trans h

set_option maxRecDepth 100000 in
set_option maxHeartbeats 1000000 in
theorem stGet_any (p : Nat) (b : ByteArray) (hb : b.size ≤ 137438953472) (q : Nat) (hq : q ≤ 8 * b.size) (s : St.S) (w : World) (hT : ClsOk w) (hr : RdAt w p b q) :
    Calls Tryz.prog 75 #[.pointer (some ⟨p, 0, none⟩), s.val] w fun e w' => Far w w' (OneSet p) ∧
      ((∃ t, s.got ((Bit.bits b).drop q) = some t ∧ e = .returned (.tuple #[(s.next t).val, .bool true]) ∧ RdAt w' p b (q + s.cost t)) ∨ (s.got ((Bit.bits b).drop q) = none ∧ e = .returned (.tuple #[s.val, .bool false]) ∧ RdAt w' p b q)) := by
  have hpl : p < w.heap.size := hr.lt
  have hread := fun W (h : ClsOk W) (h2 : RdAt W p b q) => stRead1_any p b hb q hq s W h h2
  have hnext := fun t W => next_any s t W
  have r0 : w.cell? ⟨p, 0, none⟩ = some (.string b) := cell_of_row _ _ 0 _ _ _ hr
  have r1 : w.cell? ⟨p, 1, none⟩ = some (.int .i64 q) := cell_of_row _ _ 1 _ _ _ hr
  have hb3 : Below w.heap.size w (((w.alloc (.cells #[.int .i64 s.n, .int .i64 s.t, .int .i64 s.d] 102)).alloc (.cells #[.int .i64 0, .int .i64 0, .int .i64 0] 102)).alloc (.cells #[.string b, .int .i64 q] 131)) :=
    (((Below.refl _ _).alloc (Nat.le_refl _) _).alloc (by simp) _).alloc (by simp; omega) _
  obtain ⟨t0, t1, t2, tz, _, _⟩ := three_heap w (.cells #[.int .i64 s.n, .int .i64 s.t, .int .i64 s.d] 102) (.cells #[.int .i64 0, .int .i64 0, .int .i64 0] 102) (.cells #[.string b, .int .i64 q] 131)
  have hT3 := hT.later hb3
  have hr3 := hr.below hb3
  have hf3 := far_of_below hb3 (OneSet p)
  have HREAD := Lib.hid hread; have HNEXT := Lib.hid hnext; have HT3 := Lib.hid hT3; have HR3 := Lib.hid hr3; have HF3 := Lib.hid hf3
  have S0 : Hid (StateAt _ w.heap.size s) := Lib.hid t0
  have S1 : Hid (StateAt _ (w.heap.size + 1) ⟨0, 0, 0⟩) := Lib.hid t1
  have S2 : Hid (RdAt _ (w.heap.size + 2) b q) := Lib.hid t2
  clear hread hnext hT3 hr3 hf3 hb3 t0 t1 t2 hT
  have hval : ∀ s : St.S, s.val = .agg #[.int .i64 s.n, .int .i64 s.t, .int .i64 s.d] := fun s => rfl
  rw [hval s]
  go_enter Tryz.func75, Tryz.ntmps75
  go_wp2_with fail
  have hread := HREAD.out _ HT3.out HR3.out
  rw [hval] at hread
  refine hread.mono ?_
  clear hread HREAD
  rintro e w4 ⟨t, o, rfl, hf4, ⟨rfl, hg, hr4⟩ | ⟨rfl, hg, q2, hq2, hr4⟩⟩
  · have HR4 := Lib.hid hr4; have HF4 := Lib.hid (HF3.out.more hf4); have HG := Lib.hid hg
    have s0 := S0.out.far hf4 (by omega)
    have s1 := S1.out.far hf4 (by omega)
    have HS1 := Lib.hid s1
    obtain ⟨a0, a1, a2⟩ := s0.cells
    have hz := hf4.size
    rw [tz] at hz
    clear s0 s1 hr4 hf4 hg S0 S1 S2 HR3 HF3 HT3
    go_wp2_with fail
    refine (HNEXT.out t _).mono ?_; rintro e w5 ⟨rfl, hb5⟩
    have HS5 := Lib.hid (HS1.out.later hb5); have HR5 := Lib.hid (HR4.out.below hb5); have HF5 := Lib.hid (HF4.out.more (far_of_below hb5 _))
    clear hb5
    obtain ⟨c0, c1, c2⟩ := HS5.out.cells
    obtain ⟨f0, f1, f2⟩ := HS5.out.free
    generalize hs2 : s.next t = s2 at *
    rw [hval s2]
    have HS2 := Lib.hid hs2; clear hs2
    have HV := Lib.hid (hval s2)
    generalize s2.n = n2 at *
    generalize s2.t = t2 at *
    generalize s2.d = d2 at *
    go_wp2_with fail
    refine bodyPost_ret (v := .tuple #[.agg #[.int .i64 n2, .int .i64 t2, .int .i64 d2], .bool true]) (by simp [results, go_sem, c0, c1, c2]) rfl ?_
    exact ⟨HF5.out.three (by omega), .inl ⟨t, HG.out, by rw [HS2.out, HV.out], HR5.out.three (by omega)⟩⟩
  · have HR4 := Lib.hid hr4; have HF4 := Lib.hid (HF3.out.more hf4); have HG := Lib.hid hg
    have s0 := S0.out.far hf4 (by omega)
    have s1 := S1.out.far hf4 (by omega)
    have s2 : RdAt w4 (w.heap.size + 2) b q := S2.out.far hf4 (fun e => by have : w.heap.size + 2 = p := e; omega)
    have HS0 := Lib.hid s0; have HS1 := Lib.hid s1
    have x0 : w4.cell? ⟨w.heap.size + 2, 0, none⟩ = some (.string b) := cell_of_row _ _ 0 _ _ _ s2
    have x1 : w4.cell? ⟨w.heap.size + 2, 1, none⟩ = some (.int .i64 q) := cell_of_row _ _ 1 _ _ _ s2
    have y0 : w4.cell? ⟨p, 0, none⟩ = some (.string b) := cell_of_row _ _ 0 _ _ _ hr4
    have y1 : w4.cell? ⟨p, 1, none⟩ = some (.int .i64 q2) := cell_of_row _ _ 1 _ _ _ hr4
    have z0 : w4.frozen? ⟨p, 0, none⟩ = false := frozen_of_row _ _ _ _ _ hr4
    have z1 : w4.frozen? ⟨p, 1, none⟩ = false := frozen_of_row _ _ _ _ _ hr4
    have hz := hf4.size
    rw [tz] at hz
    clear s0 s1 s2 hr4 hf4 hg S0 S1 S2 HR3 HF3 HT3
    go_upto_region 5 with fail
    obtain ⟨hr5, hf5⟩ := HR4.out.back b q
    have s0 := HS0.out.far hf5 (by omega)
    have s1 := HS1.out.far hf5 (by omega)
    have HF5 := Lib.hid (HF4.out.more hf5); have HR5 : Hid (RdAt _ p b q) := Lib.hid hr5
    generalize (w4.setCell ⟨p, 0, none⟩ (.string b)).setCell ⟨p, 1, none⟩ (.int .i64 q) = w5 at *
    obtain ⟨a0, a1, a2⟩ := s0.cells
    obtain ⟨c0, c1, c2⟩ := s1.cells
    obtain ⟨f0, f1, f2⟩ := s1.free
    clear s0 s1 hr5 hf5 x0 x1 y0 y1 z0 z1 HS0 HS1
    go_wp2_with fail
    refine bodyPost_ret (v := .tuple #[.agg #[.int .i64 s.n, .int .i64 s.t, .int .i64 s.d], .bool false]) (by simp [results, go_sem, c0, c1, c2]) rfl ?_
    exact ⟨HF5.out.three (by omega), .inr ⟨HG.out, rfl, HR5.out.three (by omega)⟩⟩
end Go.Proofs.YtfgcgjogaaofdaaGreatDoor
/-
  Rows of times out of bits: the mathematics.
-/
namespace Go.Proofs.YtfgcgjogaaofdaaGreatDoor
open Go.RowKit
namespace St

/-- how far k readings come: the state, the times, how many bits they took -/
def run (L : List Bool) : Nat → Option (S × List Int × Nat)
  | 0 => some (⟨0, 0, 0⟩, [], 0)
  | k + 1 => match run L k with
    | none => none
    | some (s, l, q) => match s.got (L.drop q) with
      | none => none
      | some t => some (s.next t, l ++ [t], q + s.cost t)
theorem run_succ {L : List Bool} {k : Nat} {s : S} {l : List Int} {q : Nat} (h : run L k = some (s, l, q)) : run L (k + 1) = match s.got (L.drop q) with | none => none | some t => some (s.next t, l ++ [t], q + s.cost t) := by
  show (match run L k with | none => none | some (s, l, q) => match s.got (L.drop q) with | none => none | some t => some (s.next t, l ++ [t], q + s.cost t)) = _
  rw [h]
theorem run_none {L : List Bool} {k : Nat} (h : run L k = none) : ∀ n, k ≤ n → run L n = none
  | 0, hn => by obtain rfl : k = 0 := by omega
                exact h
  | n + 1, hn => by
    by_cases hk : k = n + 1
    · rw [← hk]; exact h
    · have := run_none h n (by omega)
      show (match run L n with | none => none | some (s, l, q) => match s.got (L.drop q) with | none => none | some t => some (s.next t, l ++ [t], q + s.cost t)) = _
      rw [this]
theorem S.cost_pos (s : S) (t : Int) : 1 ≤ s.cost t := by
  unfold S.cost
  split
  · omega
  · have : ∀ k, 1 ≤ marks k := fun k => by unfold marks; split <;> omega
    have := this (cls (s.change t)); omega
theorem after_congr {f g : Nat → Int} : ∀ (k : Nat), (∀ i, i < k → f i = g i) → after f k = after g k ∧ bits f k = bits g k
  | 0, _ => ⟨rfl, rfl⟩
  | k + 1, h => by
    obtain ⟨h1, h2⟩ := after_congr k (fun i hi => h i (by omega))
    simp only [after, bits, h1, h2, h k (by omega)]
    exact ⟨trivial, trivial⟩
def inR (t : Int) : Prop := -9223372036854775808 ≤ t ∧ t < 9223372036854775808
theorem getD_snoc (l : List Int) (t : Int) (i : Nat) (h : i < l.length) : (l ++ [t]).getD i 0 = l.getD i 0 := by
  simp [List.getD, List.getElem?_append, h]
theorem getD_last (l : List Int) (t : Int) : (l ++ [t]).getD l.length 0 = t := by simp [List.getD]
/-- what was read has just these bits -/
theorem run_some (L : List Bool) : ∀ (k : Nat) {s : S} {l : List Int} {q : Nat}, run L k = some (s, l, q) →
    l.length = k ∧ s = after (fun i => l.getD i 0) k ∧ L = bits (fun i => l.getD i 0) k ++ L.drop q ∧ (bits (fun i => l.getD i 0) k).length = q ∧ k ≤ q ∧ q ≤ L.length ∧ ∀ t ∈ l, inR t
  | 0, s, l, q, h => by
    simp only [run, Option.some.injEq, Prod.mk.injEq] at h
    obtain ⟨rfl, rfl, rfl⟩ := h
    simp [after, bits]
  | k + 1, s, l, q, h => by
    cases h0 : run L k with
    | none => rw [run_none h0 (k + 1) (by omega)] at h; cases h
    | some x =>
      obtain ⟨s0, l0, q0⟩ := x
      rw [run_succ h0] at h
      obtain ⟨a1, a2, a3, a4, a5, a6, a7⟩ := run_some L k h0
      cases hg : s0.got (L.drop q0) with
      | none => rw [hg] at h; cases h
      | some t =>
        rw [hg] at h
        simp only [Option.some.injEq, Prod.mk.injEq] at h
        obtain ⟨rfl, rfl, rfl⟩ := h
        obtain ⟨g1, g2, g3⟩ := S.got_some hg
        rw [List.length_drop] at g2
        have hp := s0.cost_pos t
        obtain ⟨c1, c2⟩ := after_congr (f := fun i => (l0 ++ [t]).getD i 0) (g := fun i => l0.getD i 0) k (fun i hi => getD_snoc l0 t i (by omega))
        have hl : (fun i => (l0 ++ [t]).getD i 0) k = t := by show (l0 ++ [t]).getD k 0 = t; rw [← a1]; exact getD_last l0 t
        refine ⟨by simp [a1], ?_, ?_, ?_, by omega, by omega, ?_⟩
        · simp only [after, c1, ← a2, hl]
        · simp only [bits, c1, c2, ← a2, hl]
          rw [List.append_assoc, ← List.drop_drop, ← g1]
          exact a3
        · simp only [bits, c1, c2, ← a2, hl, List.length_append, a4, S.code_length]
        · intro u hu
          rcases List.mem_append.1 hu with hu | hu
          · exact a7 u hu
          · obtain rfl : u = t := by simpa using hu
            exact g3
theorem bits_more (f : Nat → Int) (k : Nat) : ∀ n, k ≤ n → ∃ R, bits f n = bits f k ++ R := fun n h => by
  induction n with
  | zero => obtain rfl : k = 0 := by omega
            exact ⟨[], by simp⟩
  | succ n ih =>
    by_cases hk : k = n + 1
    · exact ⟨[], by simp [hk]⟩
    · obtain ⟨R, hR⟩ := ih (by omega)
      exact ⟨R ++ (after f n).code (f n), by simp [bits, hR]⟩
/-- what was put is read -/
theorem run_bits (f : Nat → Int) (n : Nat) (hf : ∀ i, i < n → inR (f i)) (R : List Bool) : ∀ k, k ≤ n → run (bits f n ++ R) k = some (after f k, (List.range k).map f, (bits f k).length)
  | 0, _ => by simp [run, after, bits]
  | k + 1, h => by
    rw [run_succ (run_bits f n hf R k (by omega))]
    obtain ⟨R2, hR2⟩ := bits_more f (k + 1) n h
    have e : (bits f n ++ R).drop (bits f k).length = (after f k).code (f k) ++ (R2 ++ R) := by
      rw [hR2, bits, List.append_assoc, List.append_assoc, List.drop_left]
    rw [e, S.got_code _ _ (hf k (by omega))]
    simp only [after, bits, List.length_append, S.code_length, List.range_succ, List.map_append, List.map_cons, List.map_nil]
end St
namespace St
/-- the n times that bytes are -/
def read (b : ByteArray) (n : Int) : Option (List Int) :=
  if n < 0 ∨ 10000 < n then none else
    match run (Bit.bits b) n.toNat with
    | none => none
    | some (_, l, q) => if Bit.clean ((Bit.bits b).drop q) then some l else none
theorem read_bits (f : Nat → Int) (n : Nat) (hn : n ≤ 10000) (hf : ∀ i, i < n → inR (f i)) : read (Bit.text (bits f n)) n = some ((List.range n).map f) := by
  obtain ⟨h1, h2, h3⟩ := text_end (bits f n)
  unfold read
  rw [if_neg (by omega), Int.toNat_natCast, Bit.text_bits, run_bits f n hf _ n (Nat.le_refl _)]
  rw [← Bit.text_bits]
  show (if Bit.clean (List.drop (bits f n).length (Bit.bits (Bit.text (bits f n)))) = true then some ((List.range n).map f) else none) = _
  rw [h1]
  simp only [Bit.clean, List.length_replicate, h2, Bit.val_zeros]
  rfl
/-- nothing else is read -/
theorem read_some {b : ByteArray} {n : Int} {l : List Int} (h : read b n = some l) : (l.length : Int) = n ∧ l.length ≤ 8 * b.size ∧ Bit.text (bits (fun i => l.getD i 0) l.length) = b ∧ ∀ t ∈ l, inR t := by
  unfold read at h
  by_cases hn : n < 0 ∨ 10000 < n
  · rw [if_pos hn] at h; cases h
  · rw [if_neg hn] at h
    cases hr : run (Bit.bits b) n.toNat with
    | none => rw [hr] at h; cases h
    | some x =>
      obtain ⟨s, l0, q⟩ := x
      rw [hr] at h
      simp only at h
      by_cases hc : Bit.clean ((Bit.bits b).drop q) = true
      · rw [if_pos hc] at h
        obtain rfl := Option.some.inj h
        obtain ⟨a1, a2, a3, a4, a5, a6, a7⟩ := run_some _ _ hr
        rw [Bit.bits_length] at a6
        simp only [Bit.clean, Bool.and_eq_true, decide_eq_true_eq] at hc
        rw [List.length_drop, Bit.bits_length] at hc
        refine ⟨by omega, by omega, ?_, a7⟩
        rw [a1]
        generalize bits (fun i => l0.getD i 0) n.toNat = B at *
        have hz : (Bit.bits b).drop q = List.replicate (8 * b.size - q) false := by
          have h1 := Bit.of_val ((Bit.bits b).drop q)
          rw [List.length_drop, Bit.bits_length, hc.2] at h1
          rw [← h1]
          generalize 8 * b.size - q = m
          induction m with
          | zero => rfl
          | succ m ih => simp [Bit.of, ih, List.replicate_succ]
        rw [hz] at a3
        have hts : (Bit.text B).size = b.size := by rw [Bit.text_size]; omega
        have htb := Bit.text_bits B
        have e2 : 8 * Bit.size B - B.length = 8 * b.size - q := by unfold Bit.size; omega
        rw [e2, ← a3] at htb
        exact Bit.bits_inj hts htb
      · rw [if_neg hc] at h; cases h
end St
end Go.Proofs.YtfgcgjogaaofdaaGreatDoor
