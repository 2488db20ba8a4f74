/-
  What readMark of package stamp comes to.
-/
import Derived.Test.YtopdhcbhhkajpaaDoorStJ
namespace Go.Proofs.YtopdhcbhhkajpaaDoor
open Go.RowKit

theorem far_of_below {w W : World} (h : Below w.heap.size w W) (S : Nat → Prop) : Far w W S := ⟨h.os, h.tape, h.output, h.size, fun k hk _ => h.block k hk⟩
theorem Far.more {w W W2 : World} {S : Nat → Prop} (h : Far w W S) (h2 : Far W W2 S) : Far w W2 S := h.trans h2 (fun _ hk => .inl hk)
theorem Far.grownNone {w W W2 : World} {S : Nat → Prop} (h : Far w W S) (hg : W.grownBy W2 none) : Far w W2 S := h.step hg (fun r e => by cases e)
theorem Bit.drop_get (L : List Bool) (k : Nat) (h : k < L.length) : ∃ b, L.drop k = b :: L.drop (k + 1) ∧ Bit.val ((L.drop k).take 1) = b.toNat := by
  refine ⟨L[k], by rw [List.drop_eq_getElem_cons h], ?_⟩
  rw [List.drop_eq_getElem_cons h]
  show Bit.val [L[k]] = _
  cases L[k] <;> rfl

set_option maxRecDepth 100000 in
set_option maxHeartbeats 1000000 in
theorem readMark_any (p : Nat) (s : ByteArray) (hs : s.size ≤ 137438953472) (q : Nat) (hq : q ≤ 8 * s.size) (w : World) (hr : RdAt w p s q) :
    Calls Tryd.prog 45 #[.pointer (some ⟨p, 0, none⟩)] w fun e w' => ∃ (i : Nat) (o : Bool), e = .returned (.tuple #[.int .i64 i, .bool o]) ∧ Far w w' (OneSet p) ∧
      ((o = true ∧ St.markOf ((Bit.bits s).drop q) = some i ∧ RdAt w' p s (q + St.marks i)) ∨ (o = false ∧ St.markOf ((Bit.bits s).drop q) = none ∧ ∃ q2, q2 ≤ 8 * s.size ∧ RdAt w' p s q2)) := by
  have HR := Lib.hid hr; clear hr
  have hbl : (Bit.bits s).length = 8 * s.size := Bit.bits_length s
  go_enter Tryd.func45, Tryd.ntmps45
  go_wp2_with fail
  go_loopw [7] (fun i wr => ∃ (k : Nat), k ≤ 4 ∧ i = .int .i64 k ∧ q + k ≤ 8 * s.size ∧ (Bit.bits s).drop q = List.replicate k true ++ (Bit.bits s).drop (q + k) ∧ RdAt wr p s (q + k) ∧ Far w wr (OneSet p)) (fun i _ => 4 - (intOf i).toNat)
  case atStart => exact ⟨0, by omega, rfl, by omega, rfl, HR.out, Far.refl _ _⟩
  case round =>
    obtain ⟨k, hk, rfl, hqk, hL, hrd, hf⟩ := hrel
    have HRd := Lib.hid hrd; have HF := Lib.hid hf; have HL := Lib.hid hL; clear hrd hf hL
    by_cases h4 : k < 4
    · rcases Nat.lt_or_ge (q + k) (8 * s.size) with hlt | hge
      · obtain ⟨b, hb1, hb2⟩ := Bit.drop_get (Bit.bits s) (q + k) (by omega)
        have HB1 := Lib.hid hb1; clear hb1
        go_wp2_with fail
        refine (Get_yes p s hs (q + k) 1 _ HRd.out (by show q + k + 1 ≤ _; omega)).mono ?_; rintro e w4 ⟨he, hr4, hf4⟩
        rw [show Bit.wd 1 = 1 from rfl, hb2] at he
        have HR4 : Hid (RdAt w4 p s (q + k + 1)) := Lib.hid hr4; have HF4 := Lib.hid (HF.out.more hf4); clear hr4 hf4 hb2
        cases b
        · subst he
          have e0 : (((Bool.toNat false : Nat) : Int) == 0) = true := rfl
          go_wp2_with fail
          go_ret2
          refine ⟨k, true, rfl, HF4.out, .inl ⟨rfl, ?_, ?_⟩⟩
          · rw [HL.out, HB1.out]; exact St.run_false k h4 _
          · have : St.marks k = k + 1 := by obtain rfl | rfl | rfl | rfl : k = 0 ∨ k = 1 ∨ k = 2 ∨ k = 3 := by omega
                                            all_goals rfl
            rw [this]; exact HR4.out
        · subst he
          have e0 : (((Bool.toNat true : Nat) : Int) == 0) = false := rfl
          go_wp2_with fail
          go_roundw
          case rel => exact ⟨k + 1, by omega, by go_num, by omega, by rw [HL.out, HB1.out]; exact St.run_next _ _, HR4.out, HF4.out⟩
          case measure => simp [intOf]; omega
      · go_wp2_with fail
        refine (Get_no p s hs (q + k) (by omega) 1 _ HRd.out (by show _ < q + k + 1; omega)).mono ?_; rintro e w4 ⟨rfl, hb4⟩
        have HR4 := Lib.hid (HRd.out.below hb4); have HF4 := Lib.hid (HF.out.more (far_of_below hb4 _)); clear hb4
        go_wp2_with fail
        go_ret2
        refine ⟨0, false, rfl, HF4.out, .inr ⟨rfl, ?_, q + k, by omega, HR4.out⟩⟩
        rw [HL.out, List.drop_of_length_le (by omega), List.append_nil]
        exact St.run_end k h4
    · obtain rfl : k = 4 := by omega
      go_wp2_with fail
      go_ret2
      refine ⟨4, true, rfl, HF.out, .inl ⟨rfl, ?_, HRd.out⟩⟩
      rw [HL.out]; exact St.run_four _
end Go.Proofs.YtopdhcbhhkajpaaDoor
