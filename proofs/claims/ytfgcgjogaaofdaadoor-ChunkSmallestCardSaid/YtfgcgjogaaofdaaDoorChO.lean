/-
  The walk of ChunkSmallest.
-/
import Derived.Test.YtfgcgjogaaofdaaDoorChL
namespace Go.Proofs.YtfgcgjogaaofdaaDoor
open Go.RowKit
theorem Ch.okay_gen (t : Nat → Int) (n : Nat) {g : Int} (hg : 1 ≤ g ∧ g ≤ 3) : Ch.okay g t n = Ch.okay 1 t n := by
  unfold Ch.okay
  congr 1
  simp only [decide_eq_decide]
  omega
theorem Ch.small_no {t : Nat → Int} {n : Nat} (v : Nat → Nat) (h : Ch.okay 1 t n = false) : ∀ k, k ≤ 3 → Ch.small t v n k = (0, 0)
  | 0, _ => rfl
  | k + 1, hk => by
    rw [Ch.small, Ch.put_no v (by rw [Ch.okay_gen t n (by omega)]; exact h), Ch.small_no v h k (by omega)]
    rfl
/-- what has been found behind k generations is the best of them -/
theorem Ch.small_yes {t : Nat → Int} {n : Nat} (v : Nat → Nat) (h : Ch.okay 1 t n = true) : ∀ k, 1 ≤ k → k ≤ 3 → 1 ≤ (Ch.small t v n k).1 ∧ (Ch.small t v n k).1 ≤ k ∧ (Ch.small t v n k).2 = (Ch.full (Ch.small t v n k).1 t v n).size ∧
    ∀ g : Int, 1 ≤ g → g ≤ k → (Ch.small t v n k).2 ≤ (Ch.full g t v n).size ∧ ((Ch.full g t v n).size = (Ch.small t v n k).2 → g ≤ (Ch.small t v n k).1)
  | 0, h1, _ => absurd h1 (by omega)
  | 1, _, _ => by
    have e : Ch.small t v n 1 = (1, (Ch.full 1 t v n).size) := by
      rw [Ch.small, show ((0 : Nat) : Int) + 1 = 1 from rfl, Ch.put_yes v h]
      exact if_pos ⟨rfl, .inl rfl⟩
    rw [e]
    refine ⟨by omega, by omega, rfl, fun g h1 h2 => ?_⟩
    obtain rfl : g = 1 := by omega
    exact ⟨Nat.le_refl _, fun _ => by omega⟩
  | k + 2, _, hk => by
    obtain ⟨a1, a2, a3, a4⟩ := Ch.small_yes v h (k + 1) (by omega) (by omega)
    have hp := Ch.put_yes v (show Ch.okay (((k + 1 : Nat) : Int) + 1) t n = true by rw [Ch.okay_gen t n (by omega)]; exact h)
    have hb0 : ¬ (Ch.small t v n (k + 1)).1 = 0 := by omega
    by_cases hle : (Ch.full (((k + 1 : Nat) : Int) + 1) t v n).size ≤ (Ch.small t v n (k + 1)).2
    · have e : Ch.small t v n (k + 2) = (((k + 1 : Nat) : Int) + 1, (Ch.full (((k + 1 : Nat) : Int) + 1) t v n).size) := by
        rw [Ch.small, hp]
        exact if_pos ⟨rfl, .inr hle⟩
      rw [e]
      refine ⟨by show (1 : Int) ≤ ((k + 1 : Nat) : Int) + 1; omega, by show ((k + 1 : Nat) : Int) + 1 ≤ _; omega, rfl, fun g h1 h2 => ?_⟩
      show (Ch.full (((k + 1 : Nat) : Int) + 1) t v n).size ≤ _ ∧ (_ → g ≤ ((k + 1 : Nat) : Int) + 1)
      refine ⟨?_, fun _ => by omega⟩
      by_cases hg : g = ((k + 1 : Nat) : Int) + 1
      · rw [hg]; exact Nat.le_refl _
      · exact Nat.le_trans hle (a4 g h1 (by omega)).1
    · have e : Ch.small t v n (k + 2) = Ch.small t v n (k + 1) := by
        rw [Ch.small, hp]
        exact if_neg (fun h => by rcases h.2 with h | h <;> contradiction)
      rw [e]
      refine ⟨a1, by omega, a3, fun g h1 h2 => ?_⟩
      by_cases hg : g = ((k + 1 : Nat) : Int) + 1
      · rw [hg]; exact ⟨by omega, fun h => by omega⟩
      · exact a4 g h1 (by omega)
set_option maxRecDepth 100000 in
set_option maxHeartbeats 4000000 in
theorem chunkSmallest_walk0 (w : World) (hT : ClsOk w ∧ TabOk w) (A : Option Addr) (n c : Nat) (t : Nat → Int) (v : Nat → Nat) (hA : Row 2 (sx (Ch.sm t v)) w A n) (ht : ∀ i, i < n → St.inR (t i)) (hv : ∀ i, i < n → v i < 18446744073709551616) :
    Calls Tryd.prog 4 #[.slice A n c] w fun e w' => e = .returned (.bool true) ∧ Below w.heap.size w w' := by
  have HW := Lib.hid (works_any w hT.1 hT.2)
  have HE := Lib.hid (Env.start hT.1 hT.2)
  have HA := Lib.hid hA
  clear hA hT
  by_cases hl : n ≤ 240
  · have d0 : decide ((240 : Int) < (n : Int)) = false := by simp; omega
    have HS := Lib.hid (fun W h1 h2 h3 => CSmallest_any A n c (by omega) t v ht hv W h1 h2 h3)
    have HP := Lib.hid (fun gen W h1 h2 h3 => CPut_any A n c (by omega) t v ht hv gen W h1 h2 h3)
    clear ht hv
    cases hok : Ch.okay 1 t n
    · rw [Ch.small_no v hok 3 (by omega)] at HS
      have HP0 := Lib.hid (HP.out 0)
      rw [Ch.put_no v (show Ch.okay 0 t n = false by unfold Ch.okay; rw [Bool.and_eq_false_iff]; left; simp)] at HP0
      have hbad : Ma.rising (Ch.sm t v) n = false ∨ (Ma.rising (Ch.sm t v) n = true ∧ decide ((200 : Int) < (n : Int)) = true) := by
        cases hr : Ma.rising (Ch.sm t v) n
        · exact .inl rfl
        · right
          refine ⟨rfl, ?_⟩
          unfold Ch.okay at hok
          rw [Ch.rising_sm t _ v, hr, Bool.and_true, decide_eq_false_iff_not] at hok
          simp; omega
      have HSO := Lib.hid (fun W h => Sorted_any A n c (by omega) (Ch.sm t v) W h)
      clear hok HP
      rcases hbad with hr | ⟨hr, hn⟩
      all_goals
        rw [hr] at HSO
        clear hr
        go_enter Tryd.func4, Tryd.ntmps4
        go_wp2_with fail
        refine HW.out.mono ?_; rintro e w1 ⟨rfl, hb1⟩
        have HE1 := Lib.hid (HE.out.later hb1); clear hb1
        go_wp2_with fail
        refine (HS.out _ (HA.out.later HE1.out.bel) HE1.out.cl HE1.out.tb).mono ?_; rintro e w2 ⟨rfl, hb2⟩
        have HE2 := Lib.hid (HE1.out.later hb2); clear hb2
        simp only
        go_wp2_with fail
        refine (HP0.out _ (HA.out.later HE2.out.bel) HE2.out.cl HE2.out.tb).mono ?_; rintro e w3 ⟨rfl, hb3⟩
        have HE3 := Lib.hid (HE2.out.later hb3); clear hb3
        go_wp2_with fail
        refine (HSO.out _ (HA.out.later HE3.out.bel)).mono ?_; rintro e w4 ⟨rfl, hd⟩
        have HE4 := Lib.hid (HE3.out.later hd.below); clear hd
        go_wp2_with fail
        go_ret
        exact ⟨rfl, HE4.out.bel⟩
    · obtain ⟨a1, a2, a3, a4⟩ := Ch.small_yes v hok 3 (by omega) (by omega)
      generalize Ch.small t v n 3 = s at *
      obtain ⟨b, z⟩ := s
      simp only at a1 a2 a3 a4 HS
      have HPG : Hid (∀ (g : Int), 1 ≤ g → g ≤ 3 → ∀ W, Row 2 (sx (Ch.sm t v)) W A n → ClsOk W → TabOk W → Calls Tryd.prog 8 #[.slice A n c, .int .i64 g] W fun e w' => e = .returned (.tuple #[.string (Ch.full g t v n), .int .i64 0]) ∧ Below W.heap.size W w') := Lib.hid (fun g h1 h2 W k1 k2 k3 => by
        have := HP.out g W k1 k2 k3
        rw [Ch.put_yes v (show Ch.okay g t n = true by rw [Ch.okay_gen t n ⟨h1, h2⟩]; exact hok)] at this
        exact this)
      have HPB := Lib.hid (HPG.out b a1 (by omega))
      have H4 := Lib.hid a4
      clear hok HP a4
      generalize Ch.full b t v n = bs at *
      go_enter Tryd.func4, Tryd.ntmps4
      go_wp2_with fail
      refine HW.out.mono ?_; rintro e w1 ⟨rfl, hb1⟩
      have HE1 := Lib.hid (HE.out.later hb1); clear hb1
      go_wp2_with fail
      refine (HS.out _ (HA.out.later HE1.out.bel) HE1.out.cl HE1.out.tb).mono ?_; rintro e w2 ⟨rfl, hb2⟩
      have HE2 := Lib.hid (HE1.out.later hb2); clear hb2
      go_wp2_with fail
      refine (HPB.out _ (HA.out.later HE2.out.bel) HE2.out.cl HE2.out.tb).mono ?_; rintro e w3 ⟨rfl, hb3⟩
      have HE3 := Lib.hid (HE2.out.later hb3); clear hb3
      go_wp2_with fail
      go_loopw [7] (fun i wr => ∃ k : Nat, 1 ≤ k ∧ k ≤ 4 ∧ i = .int .i64 k ∧ Env w wr) (fun i _ => 4 - (intOf i).toNat)
      case atStart => exact ⟨1, by omega, by omega, rfl, HE3.out⟩
      case round =>
        obtain ⟨k, hk1, hk2, rfl, henv⟩ := hrel
        have HEk := Lib.hid henv; clear henv
        by_cases hlt : k ≤ 3
        · have i1 : (k : Int) ≤ 3 := by omega
          have HPK := Lib.hid (HPG.out (k : Int) (by omega) i1)
          obtain ⟨b1, b2⟩ := H4.out (k : Int) (by omega) i1
          generalize Ch.full (k : Int) t v n = ks at *
          have q1 : decide ((ks.size : Int) < (bs.size : Int)) = false := by simp; omega
          have q1n : ¬ ks.size < bs.size := by omega
          have hq : ((ks.size : Int) == (bs.size : Int)) = false ∨ (((ks.size : Int) == (bs.size : Int)) = true ∧ decide (b < (k : Int)) = false) := by
            by_cases he : ks.size = bs.size
            · right
              refine ⟨by simp [he], ?_⟩
              have := b2 (by omega)
              simp; omega
            · left; simp; omega
          clear b1 b2
          rcases hq with q2 | ⟨q2, q3⟩
          · have q2n : ¬ ks.size = bs.size := by simp at q2; omega
            go_wp2_with fail
            refine (HPK.out _ (HA.out.later HEk.out.bel) HEk.out.cl HEk.out.tb).mono ?_; rintro e w4 ⟨rfl, hb4⟩
            have HE4 := Lib.hid (HEk.out.later hb4); clear hb4
            go_wp2_with fail
            go_roundw
            case rel => exact ⟨k + 1, by omega, by omega, by go_num, HE4.out⟩
            case measure => simp [intOf]; omega
          · have q2n : ks.size = bs.size := by simp at q2; omega
            go_wp2_with fail
            refine (HPK.out _ (HA.out.later HEk.out.bel) HEk.out.cl HEk.out.tb).mono ?_; rintro e w4 ⟨rfl, hb4⟩
            have HE4 := Lib.hid (HEk.out.later hb4); clear hb4
            go_wp2_with fail
            go_roundw
            case rel => exact ⟨k + 1, by omega, by omega, by go_num, HE4.out⟩
            case measure => simp [intOf]; omega
        · obtain rfl : k = 4 := by omega
          go_wp2_with fail
          go_ret
          exact ⟨rfl, HEk.out.bel⟩
  · have d0 : decide ((240 : Int) < (n : Int)) = true := by simp; omega
    clear ht hv
    go_enter Tryd.func4, Tryd.ntmps4
    go_wp2_with fail
    refine HW.out.mono ?_; rintro e w1 ⟨rfl, hb1⟩
    have HE1 := Lib.hid (HE.out.later hb1); clear hb1
    go_wp2_with fail
    go_ret
    exact ⟨rfl, HE1.out.bel⟩
set_option maxRecDepth 100000 in
theorem chunkSmallest_walk {H : Type} {enc : TypeId × Value → H} {r : Reach} {b0 : Nat} {x : Value} {d : DataW H} {p : List MemPlace} (w : World) (hT : ClsOk w ∧ TabOk w)
    (hx : Value.okWide Tryd.prog w r b0 22 x) (h : DataW.Trod enc Tryd.prog w 0 (fun _ => true) true 22 x d p) :
    Calls Tryd.prog 4 #[x] w fun e w' => e = .returned (.bool true) ∧ Below w.heap.size w w' := by
  obtain ⟨A, n, c, t, u, rfl, _, hA, h1, h2⟩ := open_smp hx h
  exact chunkSmallest_walk0 w hT A n c t u hA h1 h2
end Go.Proofs.YtfgcgjogaaofdaaDoor
