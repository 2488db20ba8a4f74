/-
  The walks of ChunkSizes and ChunkApart.
-/
import Derived.Test.YtfgcgjogaaofdaaDoorChV
namespace Go.Proofs.YtfgcgjogaaofdaaDoor
open Go.RowKit
theorem Ch.put_yes {gen : Int} {t : Nat → Int} {n : Nat} (v : Nat → Nat) (h : Ch.okay gen t n = true) : Ch.put gen t v n = (Ch.full gen t v n, 0) := by unfold Ch.put; rw [if_pos h]
theorem Ch.put_no {gen : Int} {t : Nat → Int} {n : Nat} (v : Nat → Nat) (h : Ch.okay gen t n = false) : Ch.put gen t v n = (ByteArray.empty, 1) := by unfold Ch.put; rw [h]; rfl
theorem Ch.full_at_least (gen : Int) (t : Nat → Int) (v : Nat → Nat) (n : Nat) : 5 ≤ (Ch.full gen t v n).size ∧ (gen = 1 → (Ch.full gen t v n).size = 12 + 16 * n) ∧ (gen = 2 → 5 + 9 * n ≤ (Ch.full gen t v n).size) := by
  rw [Ch.full_size]
  refine ⟨by have := (Ch.body_size gen t v n).1; omega, fun h => ?_, fun h => ?_⟩
  · subst h
    have : Ch.body 1 t v n = Ch.body1 t v n := rfl
    rw [this]; unfold Ch.body1
    rw [ByteArray.size_append, Num.wideB_size]
    have := Ch.cat_size _ 16 16 (Ch.one1_size t v) n 0
    omega
  · subst h
    have : Ch.body 2 t v n = Ch.body2 t v n := rfl
    rw [this]; unfold Ch.body2
    rw [ByteArray.size_append]
    have := Ch.cat_size _ 9 18 (Ch.one2_size t v) n 0
    have := Num.small_pos n
    omega
set_option maxRecDepth 100000 in
set_option maxHeartbeats 2000000 in
theorem chunkSizes_walk0 (w : World) (hT : ClsOk w ∧ TabOk w) (A : Option Addr) (n c : Nat) (t : Nat → Int) (v : Nat → Nat) (hA : Row 2 (sx (Ch.sm t v)) w A n) (ht : ∀ i, i < n → St.inR (t i)) (hv : ∀ i, i < n → v i < 18446744073709551616) (gen : Int) :
    Calls Tryd.prog 5 #[.slice A n c, .int .i64 gen] w fun e w' => e = .returned (.bool true) ∧ Below w.heap.size w w' := by
  have HW := Lib.hid (works_any w hT.1 hT.2)
  have HE := Lib.hid (Env.start hT.1 hT.2)
  have HA := Lib.hid hA
  clear hA hT
  by_cases hl : n ≤ 240
  · have d0 : decide ((240 : Int) < (n : Int)) = false := by simp; omega
    have HP := Lib.hid (fun W h1 h2 h3 => CPut_any A n c (by omega) t v ht hv gen W h1 h2 h3)
    clear ht hv
    cases hok : Ch.okay gen t n
    · rw [Ch.put_no v hok] at HP
      clear hok
      go_enter Tryd.func5, Tryd.ntmps5
      go_wp2_with fail
      refine HW.out.mono ?_; rintro e w1 ⟨rfl, hb1⟩
      have HE1 := Lib.hid (HE.out.later hb1); clear hb1
      go_wp2_with fail
      refine (HP.out _ (HA.out.later HE1.out.bel) HE1.out.cl HE1.out.tb).mono ?_; rintro e w2 ⟨rfl, hb2⟩
      have HE2 := Lib.hid (HE1.out.later hb2); clear hb2
      go_wp2_with fail
      go_ret
      exact ⟨rfl, HE2.out.bel⟩
    · rw [Ch.put_yes v hok] at HP
      obtain ⟨z1, z2, z3⟩ := Ch.full_at_least gen t v n
      have hz := Ch.full_size gen t v n
      have hz2 := (Ch.body_size gen t v n).2
      generalize Ch.full gen t v n = b at *
      have q5 : decide ((5 : Int) ≤ (b.size : Int)) = true := by simp; omega
      have m1 : wrap64 (16 * (n : Int)) = 16 * (n : Int) := IntWalk.wrap64_in _ (by omega)
      have m2 : wrap64 (12 + 16 * (n : Int)) = 12 + 16 * (n : Int) := IntWalk.wrap64_in _ (by omega)
      have m3 : wrap64 (9 * (n : Int)) = 9 * (n : Int) := IntWalk.wrap64_in _ (by omega)
      have m4 : wrap64 (5 + 9 * (n : Int)) = 5 + 9 * (n : Int) := IntWalk.wrap64_in _ (by omega)
      have hgc : (gen = 1 ∧ (b.size : Int) = 12 + 16 * (n : Int)) ∨ (gen = 2 ∧ 5 + 9 * (n : Int) ≤ (b.size : Int)) ∨ (¬ gen = 1 ∧ ¬ gen = 2) := by
        by_cases h1 : gen = 1
        · exact .inl ⟨h1, by have := z2 h1; omega⟩
        · by_cases h2 : gen = 2
          · exact .inr (.inl ⟨h2, by have := z3 h2; omega⟩)
          · exact .inr (.inr ⟨h1, h2⟩)
      clear z2 z3 hz hz2 hok
      rcases hgc with ⟨rfl, hz⟩ | ⟨rfl, hz⟩ | ⟨g1, g2⟩
      · have q6 : ((b.size : Int) == 12 + 16 * (n : Int)) = true := by simpa using hz
        go_enter Tryd.func5, Tryd.ntmps5
        go_wp2_with fail
        refine HW.out.mono ?_; rintro e w1 ⟨rfl, hb1⟩
        have HE1 := Lib.hid (HE.out.later hb1); clear hb1
        go_wp2_with fail
        refine (HP.out _ (HA.out.later HE1.out.bel) HE1.out.cl HE1.out.tb).mono ?_; rintro e w2 ⟨rfl, hb2⟩
        have HE2 := Lib.hid (HE1.out.later hb2); clear hb2
        go_wp2_with fail
        go_ret
        exact ⟨rfl, HE2.out.bel⟩
      · have q6 : decide (5 + 9 * (n : Int) ≤ (b.size : Int)) = true := by simpa using hz
        go_enter Tryd.func5, Tryd.ntmps5
        go_wp2_with fail
        refine HW.out.mono ?_; rintro e w1 ⟨rfl, hb1⟩
        have HE1 := Lib.hid (HE.out.later hb1); clear hb1
        go_wp2_with fail
        refine (HP.out _ (HA.out.later HE1.out.bel) HE1.out.cl HE1.out.tb).mono ?_; rintro e w2 ⟨rfl, hb2⟩
        have HE2 := Lib.hid (HE1.out.later hb2); clear hb2
        go_wp2_with fail
        go_ret
        exact ⟨rfl, HE2.out.bel⟩
      · have q6 : (gen == 1) = false := by simpa using g1
        have q7 : (gen == 2) = false := by simpa using g2
        go_enter Tryd.func5, Tryd.ntmps5
        go_wp2_with fail
        refine HW.out.mono ?_; rintro e w1 ⟨rfl, hb1⟩
        have HE1 := Lib.hid (HE.out.later hb1); clear hb1
        go_wp2_with fail
        refine (HP.out _ (HA.out.later HE1.out.bel) HE1.out.cl HE1.out.tb).mono ?_; rintro e w2 ⟨rfl, hb2⟩
        have HE2 := Lib.hid (HE1.out.later hb2); clear hb2
        go_wp2_with fail
        go_ret
        exact ⟨rfl, HE2.out.bel⟩
  · have d0 : decide ((240 : Int) < (n : Int)) = true := by simp; omega
    clear ht hv
    go_enter Tryd.func5, Tryd.ntmps5
    go_wp2_with fail
    refine HW.out.mono ?_; rintro e w1 ⟨rfl, hb1⟩
    have HE1 := Lib.hid (HE.out.later hb1); clear hb1
    go_wp2_with fail
    go_ret
    exact ⟨rfl, HE1.out.bel⟩
set_option maxRecDepth 100000 in
theorem chunkSizes_walk {H : Type} {enc : TypeId × Value → H} {r : Reach} {b0 : Nat} {x : Value} {d : DataW H} {p : List MemPlace} (w : World) (hT : ClsOk w ∧ TabOk w)
    (hx : Value.okWide Tryd.prog w r b0 22 x) (h : DataW.Trod enc Tryd.prog w 0 (fun _ => true) true 22 x d p) (gen : Int) (_hn : (Lit.int .i64 gen).wf = true) :
    Calls Tryd.prog 5 #[x, .int .i64 gen] w fun e w' => e = .returned (.bool true) ∧ Below w.heap.size w w' := by
  obtain ⟨A, n, c, t, u, rfl, _, hA, h1, h2⟩ := open_smp hx h
  exact chunkSizes_walk0 w hT A n c t u hA h1 h2 gen
set_option maxRecDepth 100000 in
set_option maxHeartbeats 2000000 in
theorem chunkApart_walk0 (w : World) (hT : ClsOk w ∧ TabOk w) (A : Option Addr) (n c : Nat) (t : Nat → Int) (v : Nat → Nat) (hA : Row 2 (sx (Ch.sm t v)) w A n) (ht : ∀ i, i < n → St.inR (t i)) (hv : ∀ i, i < n → v i < 18446744073709551616)
    (B : Option Addr) (m d : Nat) (t2 : Nat → Int) (v2 : Nat → Nat) (hB : Row 2 (sx (Ch.sm t2 v2)) w B m) (ht2 : ∀ i, i < m → St.inR (t2 i)) (hv2 : ∀ i, i < m → v2 i < 18446744073709551616) (gen : Int) :
    Calls Tryd.prog 6 #[.slice A n c, .slice B m d, .int .i64 gen] w fun e w' => e = .returned (.bool true) ∧ Below w.heap.size w w' := by
  have HW := Lib.hid (works_any w hT.1 hT.2)
  have HE := Lib.hid (Env.start hT.1 hT.2)
  have HA := Lib.hid hA; have HB := Lib.hid hB
  clear hA hT hB
  by_cases hl : n ≤ 60 ∧ m ≤ 60
  · have d0 : decide ((60 : Int) < (n : Int)) = false := by simp; omega
    have d1 : decide ((60 : Int) < (m : Int)) = false := by simp; omega
    have HP := Lib.hid (fun W h1 h2 h3 => CPut_any A n c (by omega) t v ht hv gen W h1 h2 h3)
    have HQ := Lib.hid (fun W h1 h2 h3 => CPut_any B m d (by omega) t2 v2 ht2 hv2 gen W h1 h2 h3)
    cases hok : Ch.okay gen t n
    · rw [Ch.put_no v hok] at HP
      generalize Ch.put gen t2 v2 m = q at *
      obtain ⟨qs, qe⟩ := q
      simp only at HQ
      clear hok ht hv ht2 hv2
      go_enter Tryd.func6, Tryd.ntmps6
      go_wp2_with fail
      refine HW.out.mono ?_; rintro e w1 ⟨rfl, hb1⟩
      have HE1 := Lib.hid (HE.out.later hb1); clear hb1
      go_wp2_with fail
      refine (HP.out _ (HA.out.later HE1.out.bel) HE1.out.cl HE1.out.tb).mono ?_; rintro e w2 ⟨rfl, hb2⟩
      have HE2 := Lib.hid (HE1.out.later hb2); clear hb2
      go_wp2_with fail
      refine (HQ.out _ (HB.out.later HE2.out.bel) HE2.out.cl HE2.out.tb).mono ?_; rintro e w3 ⟨rfl, hb3⟩
      have HE3 := Lib.hid (HE2.out.later hb3); clear hb3
      go_wp2_with fail
      go_ret
      exact ⟨rfl, HE3.out.bel⟩
    · rw [Ch.put_yes v hok] at HP
      cases hok2 : Ch.okay gen t2 m
      · rw [Ch.put_no v2 hok2] at HQ
        clear hok hok2 ht hv ht2 hv2
        go_enter Tryd.func6, Tryd.ntmps6
        go_wp2_with fail
        refine HW.out.mono ?_; rintro e w1 ⟨rfl, hb1⟩
        have HE1 := Lib.hid (HE.out.later hb1); clear hb1
        go_wp2_with fail
        refine (HP.out _ (HA.out.later HE1.out.bel) HE1.out.cl HE1.out.tb).mono ?_; rintro e w2 ⟨rfl, hb2⟩
        have HE2 := Lib.hid (HE1.out.later hb2); clear hb2
        go_wp2_with fail
        refine (HQ.out _ (HB.out.later HE2.out.bel) HE2.out.cl HE2.out.tb).mono ?_; rintro e w3 ⟨rfl, hb3⟩
        have HE3 := Lib.hid (HE2.out.later hb3); clear hb3
        go_wp2_with fail
        go_ret
        exact ⟨rfl, HE3.out.bel⟩
      · rw [Ch.put_yes v2 hok2] at HQ
        have hsame : decide (Ch.full gen t v n = Ch.full gen t2 v2 m) = true ↔ (n = m ∧ ∀ i, i < n → Ch.sm t v i = Ch.sm t2 v2 i) := by
          rw [decide_eq_true_eq]
          constructor
          · intro e
            obtain ⟨h1, h2⟩ := Ch.full_inj gen t t2 v v2 n m ht hv ht2 hv2 hok hok2 e
            refine ⟨h1, fun i hi => ?_⟩
            unfold Ch.sm
            rw [(h2 i hi).1, (h2 i hi).2]
          · rintro ⟨rfl, h⟩
            have : ∀ i, i < n → t i = t2 i ∧ v i = v2 i := fun i hi => by
              have h3 := h i hi
              unfold Ch.sm at h3
              simp only [Sam.mk.injEq] at h3
              exact ⟨h3.1, by omega⟩
            unfold Ch.full
            rw [Ch.body_congr gen t t2 v v2 n this]
        have HS := Lib.hid (fun W h1 h2 => rSam_any A B n m c d (by omega) (Ch.sm t v) (Ch.sm t2 v2) W h1 h2 _ hsame)
        generalize Ch.full gen t v n = a at *
        generalize Ch.full gen t2 v2 m = b at *
        have hbq := str_beq a b
        generalize decide (a = b) = o at *
        clear hok hok2 ht hv ht2 hv2 hsame
        go_enter Tryd.func6, Tryd.ntmps6
        go_wp2_with fail
        refine HW.out.mono ?_; rintro e w1 ⟨rfl, hb1⟩
        have HE1 := Lib.hid (HE.out.later hb1); clear hb1
        go_wp2_with fail
        refine (HP.out _ (HA.out.later HE1.out.bel) HE1.out.cl HE1.out.tb).mono ?_; rintro e w2 ⟨rfl, hb2⟩
        have HE2 := Lib.hid (HE1.out.later hb2); clear hb2
        go_wp2_with fail
        refine (HQ.out _ (HB.out.later HE2.out.bel) HE2.out.cl HE2.out.tb).mono ?_; rintro e w3 ⟨rfl, hb3⟩
        have HE3 := Lib.hid (HE2.out.later hb3); clear hb3
        go_wp2_with fail
        refine (HS.out _ (HA.out.later HE3.out.bel) (HB.out.later HE3.out.bel)).mono ?_; rintro e w4 ⟨rfl, hd⟩
        have HE4 := Lib.hid (HE3.out.later hd.below); clear hd
        go_wp2_with fail
        go_ret
        exact ⟨by cases o <;> rfl, HE4.out.bel⟩
  · have hd : decide ((60 : Int) < (n : Int)) = true ∨ (decide ((60 : Int) < (n : Int)) = false ∧ decide ((60 : Int) < (m : Int)) = true) := by
      simp only [decide_eq_true_eq, decide_eq_false_iff_not]; omega
    clear ht hv ht2 hv2 hl
    rcases hd with d1 | ⟨d1, d2⟩
    all_goals
      go_enter Tryd.func6, Tryd.ntmps6
      go_wp2_with fail
      refine HW.out.mono ?_; rintro e w1 ⟨rfl, hb1⟩
      have HE1 := Lib.hid (HE.out.later hb1); clear hb1
      go_wp2_with fail
      go_ret
      exact ⟨rfl, HE1.out.bel⟩
set_option maxRecDepth 100000 in
theorem chunkApart_walk {H : Type} {enc : TypeId × Value → H} {r r2 : Reach} {b0 b2 : Nat} {x y : Value} {d d2 : DataW H} {p p2 : List MemPlace} (w : World) (hT : ClsOk w ∧ TabOk w)
    (hx : Value.okWide Tryd.prog w r b0 22 x) (h : DataW.Trod enc Tryd.prog w 0 (fun _ => true) true 22 x d p) (hy : Value.okWide Tryd.prog w r2 b2 22 y) (hh : DataW.Trod enc Tryd.prog w 0 (fun _ => true) true 22 y d2 p2) (gen : Int) (_hn : (Lit.int .i64 gen).wf = true) :
    Calls Tryd.prog 6 #[x, y, .int .i64 gen] w fun e w' => e = .returned (.bool true) ∧ Below w.heap.size w w' := by
  obtain ⟨A, n, c, t, u, rfl, _, hA, h1, h2⟩ := open_smp hx h
  obtain ⟨B, m, d, t2, u2, rfl, _, hB, h3, h4⟩ := open_smp hy hh
  exact chunkApart_walk0 w hT A n c t u hA h1 h2 B m d t2 u2 hB h3 h4 gen
end Go.Proofs.YtfgcgjogaaofdaaDoor
