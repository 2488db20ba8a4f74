/-
  What Put of package chunk comes to.
-/
import Derived.Test.YtfgcgjogaaofdaaGreatDoorChG
import Derived.Test.YtfgcgjogaaofdaaGreatDoorFrM
namespace Go.Proofs.YtfgcgjogaaofdaaGreatDoor
open Go.RowKit
theorem DrewOf.below {w W : World} (h : DrewOf w W) : Below w.heap.size w W := (Below.refl _ _).grown (h.grown none) (Nat.le_refl _) (fun r e => by cases e)
theorem gen_cases {gen : Int} (h : 1 ≤ gen ∧ gen ≤ 3) : ∃ k : Nat, gen = 1 ∧ k = 1 ∨ gen = 2 ∧ k = 2 ∨ gen = 3 ∧ k = 3 := by
  rcases (show gen = 1 ∨ gen = 2 ∨ gen = 3 by omega) with h | h | h
  · exact ⟨1, .inl ⟨h, rfl⟩⟩
  · exact ⟨2, .inr (.inl ⟨h, rfl⟩)⟩
  · exact ⟨3, .inr (.inr ⟨h, rfl⟩)⟩
theorem gen_put (gen : Int) (k : Nat) (hk : gen = 1 ∧ k = 1 ∨ gen = 2 ∧ k = 2 ∨ gen = 3 ∧ k = 3) (A : Option Addr) (n c : Nat) (hn : n ≤ 1000) (t : Nat → Int) (v : Nat → Nat) (ht : ∀ i, i < n → St.inR (t i)) (hv : ∀ i, i < n → v i < 18446744073709551616) :
    ∃ fv, putF k = .func (.func fv) #[] #[] ∧ (∀ args w, (callFunc fv args).run Tryz.prog w = .ok (.enter fv args) w) ∧ ∀ W, Row 2 (sx (Ch.sm t v)) W A n → ClsOk W → TabOk W →
      Calls Tryz.prog fv #[.slice A n c] W fun e w' => e = .returned (.string (Ch.body gen t v n)) ∧ Below W.heap.size W w' := by
  rcases hk with ⟨rfl, rfl⟩ | ⟨rfl, rfl⟩ | ⟨rfl, rfl⟩
  · exact ⟨_, rfl, fun args w => enters_of Tryz.func31 (by kernel_rfl) rfl args w, fun W hA _ _ => putWide_any A n c hn t v W hA⟩
  · exact ⟨_, rfl, fun args w => enters_of Tryz.func33 (by kernel_rfl) rfl args w, fun W hA _ _ => putSteps_any A n c hn t v W hA⟩
  · exact ⟨_, rfl, fun args w => enters_of Tryz.func35 (by kernel_rfl) rfl args w, fun W hA hC hT => putBits_any A n c hn t v W hA ht hv hC hT⟩
theorem gen_get (gen : Int) (k : Nat) (hk : gen = 1 ∧ k = 1 ∨ gen = 2 ∧ k = 2 ∨ gen = 3 ∧ k = 3) :
    ∃ fv, getF k = .func (.func fv) #[] #[] ∧ (∀ args w, (callFunc fv args).run Tryz.prog w = .ok (.enter fv args) w) ∧ ∀ b (c : ByteArray × Bool) W, 2 ≤ b → c.1.size ≤ 100000 → CurAt b c.1 c.2 W → ClsOk W → TabOk W →
      Calls Tryz.prog fv #[.pointer (some ⟨b, 0, none⟩)] W (GotP (Ch.parse gen c) b (OneSet b) W) := by
  rcases hk with ⟨rfl, rfl⟩ | ⟨rfl, rfl⟩ | ⟨rfl, rfl⟩
  · exact ⟨_, rfl, fun args w => enters_of Tryz.func32 (by kernel_rfl) rfl args w, fun b c W _ hz hc _ _ => getWide_any b c (by unfold maxLen; omega) W hc⟩
  · exact ⟨_, rfl, fun args w => enters_of Tryz.func34 (by kernel_rfl) rfl args w, fun b c W _ hz hc _ _ => getSteps_any b c (by unfold maxLen; omega) W hc⟩
  · exact ⟨_, rfl, fun args w => enters_of Tryz.func36 (by kernel_rfl) rfl args w, fun b c W hb hz hc hC hT => getBits_any b hb c hz W hc hC hT⟩
/-- what a walk here holds on to: the two tables, and that nothing elder was turned -/
structure Env (w W : World) : Prop where
  cl : ClsOk W
  tb : TabOk W
  bel : Below w.heap.size w W
theorem Env.later {w W W2 : World} (h : Env w W) (hb : Below W.heap.size W W2) : Env w W2 := ⟨h.cl.later hb, h.tb.later hb, below_step h.bel hb⟩
theorem Env.start {w : World} (hC : ClsOk w) (hT : TabOk w) : Env w w := ⟨hC, hT, Below.refl _ _⟩
set_option maxRecDepth 100000 in
set_option maxHeartbeats 2000000 in
theorem CPut_any (A : Option Addr) (n c : Nat) (hn : n ≤ 1000) (t : Nat → Int) (v : Nat → Nat) (ht : ∀ i, i < n → St.inR (t i)) (hv : ∀ i, i < n → v i < 18446744073709551616) (gen : Int) (w : World) (hA : Row 2 (sx (Ch.sm t v)) w A n) (hC : ClsOk w) (hT : TabOk w) :
    Calls Tryz.prog 5 #[.slice A n c, .int .i64 gen] w fun e w' => e = .returned (.tuple #[.string (Ch.put gen t v n).1, .int .i64 (Ch.put gen t v n).2]) ∧ Below w.heap.size w w' := by
  have HE := Lib.hid (Env.start hC hT); have HA := Lib.hid hA
  clear hC hT hA
  have hpn : Ch.okay gen t n = false → Ch.put gen t v n = (ByteArray.empty, 1) := fun h => by unfold Ch.put; rw [h]; rfl
  by_cases hg : 1 ≤ gen ∧ gen ≤ 3
  · obtain ⟨k, hk⟩ := gen_cases hg
    obtain ⟨fv, e1, he, hput⟩ := gen_put gen k hk A n c hn t v ht hv
    obtain ⟨gv, e2, -, -⟩ := gen_get gen k hk
    have hof := fun W => of_ok gen k hk W
    rw [e1, e2] at hof
    have HOF := Lib.hid hof; have HPUT := Lib.hid hput
    clear hof hput hk e1 e2 ht hv
    go_enter Tryz.func5, Tryz.ntmps5
    go_wp2_with fail
    refine (HOF.out _).mono ?_; rintro e w2 ⟨rfl, hb2⟩
    have hal : Below w2.heap.size w2 (w2.alloc (.cells #[.func (.func fv) #[] #[], .func (.func gv) #[] #[]] 39)) := (Below.refl _ _).alloc (Nat.le_refl _) _
    have HX : Hid (RowIs (w2.alloc (.cells #[.func (.func fv) #[] #[], .func (.func gv) #[] #[]] 39)) w2.heap.size (.cells #[.func (.func fv) #[] #[], .func (.func gv) #[] #[]] 39)) := Lib.hid (RowIs.one _ _)
    have HE3 := Lib.hid ((HE.out.later hb2).later hal)
    clear hb2 hal HE
    go_wp2_with fail
    refine (Sorted_any A n c (by omega) (Ch.sm t v) _ (HA.out.later HE3.out.bel)).mono ?_; rintro e w4 ⟨rfl, hd⟩
    have HE4 := Lib.hid (HE3.out.later hd.below); have HX4 := Lib.hid (HX.out.keep hd.below)
    clear hd HE3 HX
    by_cases hs : Ma.rising (Ch.sm t v) n = true
    · rw [hs]
      by_cases hl : n ≤ 200
      · have d0 : decide ((200 : Int) < (n : Int)) = false := by simp; omega
        have hok : Ch.okay gen t n = true := by
          unfold Ch.okay
          rw [Ch.rising_sm t _ v, hs]
          simp only [Bool.and_true, decide_eq_true_eq]
          exact ⟨hg.1, hg.2, hl⟩
        have hfull : Ch.put gen t v n = (Ch.body gen t v n ++ Crc.four (Crc.ofB (Ch.body gen t v n)), 0) := by unfold Ch.put; rw [if_pos hok]; rfl
        have hz := Ch.body_size gen t v n
        have h4 := Crc.four_size (Crc.ofB (Ch.body gen t v n))
        have HTAIL := Lib.hid (fun W => Tail_any (Ch.body gen t v n) (by unfold maxLen; omega) W)
        have HFULL := Lib.hid hfull
        clear hok hfull hpn hs
        have hcall := HPUT.out w4 (HA.out.later HE4.out.bel) HE4.out.cl HE4.out.tb
        have HCALL := Lib.hid hcall
        clear hcall HPUT
        generalize Crc.four (Crc.ofB (Ch.body gen t v n)) = q at *
        generalize Ch.body gen t v n = b at *
        have hsum : ¬ 9223372036854775807 < b.size + q.size := by omega
        have x0 := cell_of_row _ _ 0 _ _ _ HX4.out
        simp only [List.getElem?_toArray, List.getElem?_cons_zero] at x0
        clear hz h4
        go_wp2_with fail
        refine HCALL.out.mono ?_; rintro e w5 ⟨rfl, hb5⟩
        have HE5 := Lib.hid (HE4.out.later hb5); clear hb5 x0
        go_wp2_with fail
        refine (HTAIL.out _).mono ?_; rintro e w6 ⟨rfl, hb6⟩
        have HE6 := Lib.hid (HE5.out.later hb6); clear hb6
        go_wp2_with fail
        go_ret2
        rw [HFULL.out]
        exact ⟨rfl, HE6.out.bel⟩
      · have d0 : decide ((200 : Int) < (n : Int)) = true := by simp; omega
        have HN := Lib.hid (hpn (by unfold Ch.okay; rw [Bool.and_eq_false_iff]; left; simp; omega))
        clear hpn hs
        go_wp2_with fail
        go_ret2
        rw [HN.out]
        exact ⟨rfl, HE4.out.bel⟩
    · have hs' : Ma.rising (Ch.sm t v) n = false := by simpa using hs
      rw [hs']
      have HN := Lib.hid (hpn (by unfold Ch.okay; rw [Ch.rising_sm t _ v, hs']; simp))
      clear hpn hs hs'
      go_wp2_with fail
      go_ret2
      rw [HN.out]
      exact ⟨rfl, HE4.out.bel⟩
  · have HN := Lib.hid (hpn (by unfold Ch.okay; rw [Bool.and_eq_false_iff]; left; simp; omega))
    have HOF := Lib.hid (fun W => of_no gen hg W)
    clear hpn hg ht hv
    go_enter Tryz.func5, Tryz.ntmps5
    go_wp2_with fail
    refine (HOF.out _).mono ?_; rintro e w2 ⟨rfl, hb2⟩
    have hal : Below w2.heap.size w2 (w2.alloc (.cells #[.nilFunc, .nilFunc] 39)) := (Below.refl _ _).alloc (Nat.le_refl _) _
    have HE3 := Lib.hid ((HE.out.later hb2).later hal)
    clear hb2 hal HE
    go_wp2_with fail
    go_ret2
    rw [HN.out]
    exact ⟨rfl, HE3.out.bel⟩
end Go.Proofs.YtfgcgjogaaofdaaGreatDoor
