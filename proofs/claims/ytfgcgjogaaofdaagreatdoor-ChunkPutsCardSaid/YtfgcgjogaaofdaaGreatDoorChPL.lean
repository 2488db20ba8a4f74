/-
  The walk of ChunkPuts.
-/
import Derived.Test.YtfgcgjogaaofdaaGreatDoorChP
import Derived.Test.YtfgcgjogaaofdaaGreatDoorChV
namespace Go.Proofs.YtfgcgjogaaofdaaGreatDoor
open Go.RowKit
theorem Ch.put_yes' {gen : Int} {t : Nat → Int} {n : Nat} (v : Nat → Nat) (h : Ch.okay gen t n = true) : Ch.put gen t v n = (Ch.full gen t v n, 0) := by unfold Ch.put; rw [if_pos h]
theorem Ch.put_no' {gen : Int} {t : Nat → Int} {n : Nat} (v : Nat → Nat) (h : Ch.okay gen t n = false) : Ch.put gen t v n = (ByteArray.empty, 1) := by unfold Ch.put; rw [h]; rfl
set_option maxRecDepth 100000 in
set_option maxHeartbeats 1000000 in
theorem rPutC_any (A : Option Addr) (n c : Nat) (hn : n ≤ 1000) (t : Nat → Int) (v : Nat → Nat) (ht : ∀ i, i < n → St.inR (t i)) (hv : ∀ i, i < n → v i < 18446744073709551616) (gen : Int) (w : World) (hA : Row 2 (sx (Ch.sm t v)) w A n) :
    Calls Tryz.prog 6 #[.slice A n c, .int .i64 gen] w fun e w' => e = .returned (.tuple #[.string (Ch.put gen t v n).1, .int .i64 (Ch.put gen t v n).2]) ∧ Below w.heap.size w w' := by
  by_cases hg : 1 ≤ gen ∧ gen ≤ 3
  · cases hr : Ma.rising (Ch.sm t v) n
    · rw [Ch.put_no' v (by unfold Ch.okay; rw [Ch.rising_sm t _ v, hr]; simp)]
      have HSO := Lib.hid (Sorted0_any A n c (by omega) (Ch.sm t v) w hA)
      rw [hr] at HSO
      have d0 : decide (gen < 1) = false := by simp; omega
      have d1 : decide (3 < gen) = false := by simp; omega
      clear hg hr ht hv hA
      go_enter Tryz.func6, Tryz.ntmps6
      go_wp2_with fail
      refine HSO.out.mono ?_; rintro e w1 ⟨rfl, hd⟩
      have HB1 := Lib.hid hd.below; clear hd
      go_wp2_with fail
      go_ret2
      exact ⟨rfl, HB1.out⟩
    · by_cases hl : n ≤ 200
      · have hok : Ch.okay gen t n = true := by
          unfold Ch.okay
          rw [Ch.rising_sm t _ v, hr]
          simp only [Bool.and_true, decide_eq_true_eq]
          exact ⟨hg.1, hg.2, hl⟩
        rw [Ch.put_yes' v hok]
        rcases (show gen = 1 ∨ gen = 2 ∨ gen = 3 by omega) with rfl | rfl | rfl
        · exact rPut1_any A n c hl t v ht hv w hA hr
        · exact rPut2_any A n c hl t v ht hv w hA hr
        · exact rPut3_any A n c hl t v ht hv w hA hr
      · rw [Ch.put_no' v (by unfold Ch.okay; rw [Bool.and_eq_false_iff]; left; simp; omega)]
        have HSO := Lib.hid (Sorted0_any A n c (by omega) (Ch.sm t v) w hA)
        rw [hr] at HSO
        have d0 : decide (gen < 1) = false := by simp; omega
        have d1 : decide (3 < gen) = false := by simp; omega
        have d2 : decide ((200 : Int) < (n : Int)) = true := by simp; omega
        clear hg hr ht hv hA
        go_enter Tryz.func6, Tryz.ntmps6
        go_wp2_with fail
        refine HSO.out.mono ?_; rintro e w1 ⟨rfl, hd⟩
        have HB1 := Lib.hid hd.below; clear hd
        go_wp2_with fail
        go_ret2
        exact ⟨rfl, HB1.out⟩
  · rw [Ch.put_no' v (by unfold Ch.okay; rw [Bool.and_eq_false_iff]; left; simp; omega)]
    have hd : decide (gen < 1) = true ∨ (decide (gen < 1) = false ∧ decide (3 < gen) = true) := by
      simp only [decide_eq_true_eq, decide_eq_false_iff_not]; omega
    clear hg ht hv hA
    rcases hd with d0 | ⟨d0, d1⟩
    all_goals
      go_enter Tryz.func6, Tryz.ntmps6
      go_wp2_with fail
      go_ret2
      exact ⟨rfl, Below.refl _ _⟩
set_option maxRecDepth 100000 in
set_option maxHeartbeats 1000000 in
theorem chunkPuts_walk0 (w : World) (hT : ClsOk w ∧ TabOk w) (A : Option Addr) (n c : Nat) (t : Nat → Int) (v : Nat → Nat) (hA : Row 2 (sx (Ch.sm t v)) w A n) (ht : ∀ i, i < n → St.inR (t i)) (hv : ∀ i, i < n → v i < 18446744073709551616) (gen : Int) :
    Calls Tryz.prog 3 #[.slice A n c, .int .i64 gen] w fun e w' => e = .returned (.bool true) ∧ Below w.heap.size w w' := by
  have HW := Lib.hid (works_any w hT.1 hT.2)
  have HE := Lib.hid (Env.start hT.1 hT.2)
  have HA := Lib.hid hA
  clear hA hT
  by_cases hl : n ≤ 240
  · have d0 : decide ((240 : Int) < (n : Int)) = false := by simp; omega
    have HP := Lib.hid (fun W h1 h2 h3 => CPut_any A n c (by omega) t v ht hv gen W h1 h2 h3)
    have HR := Lib.hid (fun W h1 => rPutC_any A n c (by omega) t v ht hv gen W h1)
    clear ht hv
    generalize Ch.put gen t v n = p at *
    obtain ⟨ps, pe⟩ := p
    simp only at HP HR
    have hbs : (ps.toList == ps.toList) = true := by simp
    have hbe : (pe == pe) = true := by simp
    go_enter Tryz.func3, Tryz.ntmps3
    go_wp2_with fail
    refine HW.out.mono ?_; rintro e w1 ⟨rfl, hb1⟩
    have HE1 := Lib.hid (HE.out.later hb1); clear hb1
    go_wp2_with fail
    refine (HP.out _ (HA.out.later HE1.out.bel) HE1.out.cl HE1.out.tb).mono ?_; rintro e w2 ⟨rfl, hb2⟩
    have HE2 := Lib.hid (HE1.out.later hb2); clear hb2
    go_wp2_with fail
    refine (HR.out _ (HA.out.later HE2.out.bel)).mono ?_; rintro e w3 ⟨rfl, hb3⟩
    have HE3 := Lib.hid (HE2.out.later hb3); clear hb3
    go_wp2_with fail
    go_ret
    exact ⟨rfl, HE3.out.bel⟩
  · have d0 : decide ((240 : Int) < (n : Int)) = true := by simp; omega
    clear ht hv
    go_enter Tryz.func3, Tryz.ntmps3
    go_wp2_with fail
    refine HW.out.mono ?_; rintro e w1 ⟨rfl, hb1⟩
    have HE1 := Lib.hid (HE.out.later hb1); clear hb1
    go_wp2_with fail
    go_ret
    exact ⟨rfl, HE1.out.bel⟩
set_option maxRecDepth 100000 in
theorem chunkPuts_walk {H : Type} {enc : TypeId × Value → H} {r : Reach} {b0 : Nat} {x : Value} {d : DataW H} {p : List MemPlace} (w : World) (hT : ClsOk w ∧ TabOk w)
    (hx : Value.okWide Tryz.prog w r b0 22 x) (h : DataW.Trod enc Tryz.prog w 0 (fun _ => true) true 22 x d p) (gen : Int) (_hn : (Lit.int .i64 gen).wf = true) :
    Calls Tryz.prog 3 #[x, .int .i64 gen] w fun e w' => e = .returned (.bool true) ∧ Below w.heap.size w w' := by
  obtain ⟨A, n, c, t, u, rfl, _, hA, h1, h2⟩ := open_smp hx h
  exact chunkPuts_walk0 w hT A n c t u hA h1 h2 gen
end Go.Proofs.YtfgcgjogaaofdaaGreatDoor
