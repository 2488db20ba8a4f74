/-
  The walks of ChunkBack and ChunkSmallest.
-/
import Derived.Test.YtfgcgjogaaofdaaDoorChL
namespace Go.Proofs.YtfgcgjogaaofdaaDoor
open Go.RowKit
theorem Ch.put_ok {gen : Int} {t : Nat → Int} {v : Nat → Nat} {n : Nat} {s : ByteArray} (h : Ch.put gen t v n = (s, 0)) : Ch.okay gen t n = true ∧ Ch.full gen t v n = s := by
  unfold Ch.put at h
  split at h
  · rename_i h1; exact ⟨h1, (Prod.mk.inj h).1⟩
  · exact absurd (Prod.mk.inj h).2 (by decide)
theorem Ch.okay_rising {gen : Int} {t : Nat → Int} {n : Nat} (v : Nat → Nat) (h : Ch.okay gen t n = true) : Ma.rising (Ch.sm t v) n = true ∧ n ≤ 200 := by
  unfold Ch.okay at h
  simp only [Bool.and_eq_true, decide_eq_true_eq] at h
  exact ⟨h.2, h.1.2.2⟩
theorem Ch.put_err (gen : Int) (t : Nat → Int) (v : Nat → Nat) (n : Nat) : (Ch.put gen t v n).2 = 0 ∨ Ch.put gen t v n = (ByteArray.empty, 1) := by
  unfold Ch.put
  split
  · exact .inl rfl
  · exact .inr rfl
set_option maxRecDepth 100000 in
set_option maxHeartbeats 4000000 in
theorem chunkBack_walk0 (w : World) (hT : ClsOk w ∧ TabOk w) (A : Option Addr) (n c : Nat) (t : Nat → Int) (v : Nat → Nat) (hA : Row 2 (sx (Ch.sm t v)) w A n) (ht : ∀ i, i < n → St.inR (t i)) (hv : ∀ i, i < n → v i < 18446744073709551616) (s : ByteArray) (gen : Int) :
    Calls Tryd.prog 3 #[.slice A n c, .string s, .int .i64 gen] w fun e w' => e = .returned (.bool true) ∧ Below w.heap.size w w' := by
  have HW := Lib.hid (works_any w hT.1 hT.2)
  have HE := Lib.hid (Env.start hT.1 hT.2)
  have HA := Lib.hid hA
  clear hA hT
  by_cases hl : n ≤ 60 ∧ s.size ≤ 600
  · have d0 : decide ((60 : Int) < (n : Int)) = false := by simp; omega
    have d1 : decide ((600 : Int) < (s.size : Int)) = false := by simp; omega
    have HP := Lib.hid (fun W h1 h2 h3 => CPut_any A n c (by omega) t v ht hv gen W h1 h2 h3)
    have HG := Lib.hid (fun W h1 h2 => CGet_any s (by omega) gen W h1 h2)
    have hsz := Ch.put_size gen t v n
    have HPG := Lib.hid (fun W h1 h2 => CGet_any (Ch.put gen t v n).1 (by omega) gen W h1 h2)
    have hin := Ch.get_in gen s
    have hgs : (Ch.get gen s).2 = 0 → Ch.put gen (Ch.tL (Ch.get gen s).1) (Ch.vL (Ch.get gen s).1) (Ch.get gen s).1.length = (s, 0) := fun h => (Ch.get_some h).1
    have hgn : (Ch.get gen s).2 ≠ 0 → (Ch.get gen s).1 = [] := fun h => (Ch.get_none h).1
    generalize Ch.get gen s = g at *
    obtain ⟨L, x⟩ := g
    simp only at hin hgs hgn HG
    have HIN := Lib.hid hin; have HGS := Lib.hid hgs; have HGN := Lib.hid hgn
    have hL := hin.1
    clear hin hgs hgn hsz
    have first : (∃ b, Ch.put gen t v n = (b, 0) ∧ Ch.get gen b = (Ch.lst t v n, 0)) ∨ Ch.put gen t v n = (ByteArray.empty, 1) := by
      cases hok : Ch.okay gen t n
      · exact .inr (Ch.put_no v hok)
      · exact .inl ⟨_, Ch.put_yes v hok, Ch.get_full gen t v n ht hv hok⟩
    have hsame : ∀ (B : Option Addr) (d : Nat) (W : World), Row 2 (sx (Ch.sm t v)) W A n → Row 2 (sx (Ch.sm (Ch.tL (Ch.lst t v n)) (Ch.vL (Ch.lst t v n)))) W B n → Calls Tryd.prog 10 #[.slice A n c, .slice B n d] W fun e w' => e = .returned (.bool true) ∧ DrewOf W w' := fun B d W h1 h2 =>
      rSam_any A B n n c d (by omega) _ _ W h1 h2 true ⟨fun _ => ⟨rfl, fun i hi => by
        have := Ch.tL_lst t v n i hi
        show (⟨t i, (v i : Int)⟩ : Sam) = ⟨Ch.tL (Ch.lst t v n) i, (Ch.vL (Ch.lst t v n) i : Int)⟩
        rw [this.1, this.2]⟩, fun _ => rfl⟩
    have HSM := Lib.hid hsame
    have hll := Ch.lst_length t v n
    clear hsame ht hv
    rcases first with ⟨b, hp, hg⟩ | hp
    · rw [hp] at HP HPG
      rw [hg] at HPG
      clear hp hg
      go_enter Tryd.func3, Tryd.ntmps3
      go_wp2_with fail
      refine HW.out.mono ?_; rintro e w1 ⟨rfl, hb1⟩
      have HE1 := Lib.hid (HE.out.later hb1); clear hb1
      go_wp2_with fail
      refine (HP.out _ (HA.out.later HE1.out.bel) HE1.out.cl HE1.out.tb).mono ?_; rintro e w2 ⟨rfl, hb2⟩
      have HE2 := Lib.hid (HE1.out.later hb2); clear hb2
      go_wp2_with fail
      refine (HPG.out _ HE2.out.cl HE2.out.tb).mono ?_; rintro e w3 ⟨B, cb, rfl, hrow, hb3⟩
      have HE3 := Lib.hid (HE2.out.later hb3); clear hb3
      simp only at hrow
      rw [hll] at hrow ⊢
      have HRW := Lib.hid hrow; clear hrow
      go_wp2_with fail
      refine (HSM.out B cb _ (HA.out.later HE3.out.bel) HRW.out).mono ?_; rintro e w4 ⟨rfl, hd⟩
      have HE4 := Lib.hid (HE3.out.later hd.below); clear hd
      go_wp2_with fail
      refine (HG.out _ HE4.out.cl HE4.out.tb).mono ?_; rintro e w5 ⟨C, cc, rfl, hrow, hb5⟩
      have HE5 := Lib.hid (HE4.out.later hb5); clear hb5
      simp only at hrow
      have HR5 := Lib.hid hrow; clear hrow
      by_cases hx : x = 0
      · subst hx
        have hps := HGS.out rfl
        have HQ := Lib.hid (CPut_any C L.length cc (by omega) (Ch.tL L) (Ch.vL L) (Ch.tL_in HIN.out.2).1 (Ch.tL_in HIN.out.2).2 gen _ HR5.out HE5.out.cl HE5.out.tb)
        rw [hps] at HQ
        have hris := (Ch.okay_rising (Ch.vL L) (Ch.put_ok hps).1).1
        have HSO := Lib.hid (fun W h => Sorted_any C L.length cc (by omega) (Ch.sm (Ch.tL L) (Ch.vL L)) W h)
        rw [hris] at HSO
        clear hps hris HGN HGS
        simp only at HQ
        go_wp2_with fail
        refine HQ.out.mono ?_; rintro e w6 ⟨rfl, hb6⟩
        have HE6 := Lib.hid (HE5.out.later hb6); have HR6 := Lib.hid (HR5.out.later hb6); clear hb6
        have hbs : (s.toList == s.toList) = true := by simp
        go_wp2_with fail
        refine (HSO.out _ HR6.out).mono ?_; rintro e w7 ⟨rfl, hd⟩
        have HE7 := Lib.hid (HE6.out.later hd.below); clear hd
        go_wp2_with fail
        go_ret
        exact ⟨rfl, HE7.out.bel⟩
      · obtain rfl := HGN.out hx
        have hbx : (x == 0) = false := by simpa using hx
        go_wp2_with fail
        go_ret
        exact ⟨rfl, HE5.out.bel⟩
    · rw [hp] at HP HPG
      clear hp
      generalize Ch.get gen ByteArray.empty = g0 at *
      obtain ⟨L0, x0⟩ := g0
      go_enter Tryd.func3, Tryd.ntmps3
      go_wp2_with fail
      refine HW.out.mono ?_; rintro e w1 ⟨rfl, hb1⟩
      have HE1 := Lib.hid (HE.out.later hb1); clear hb1
      go_wp2_with fail
      refine (HP.out _ (HA.out.later HE1.out.bel) HE1.out.cl HE1.out.tb).mono ?_; rintro e w2 ⟨rfl, hb2⟩
      have HE2 := Lib.hid (HE1.out.later hb2); clear hb2
      go_wp2_with fail
      refine (HPG.out _ HE2.out.cl HE2.out.tb).mono ?_; rintro e w3 ⟨B, cb, rfl, -, hb3⟩
      have HE3 := Lib.hid (HE2.out.later hb3); clear hb3
      generalize L0.length = l0 at *
      go_wp2_with fail
      refine (HG.out _ HE3.out.cl HE3.out.tb).mono ?_; rintro e w5 ⟨C, cc, rfl, hrow, hb5⟩
      have HE5 := Lib.hid (HE3.out.later hb5); clear hb5
      simp only at hrow
      have HR5 := Lib.hid hrow; clear hrow
      by_cases hx : x = 0
      · subst hx
        have hps := HGS.out rfl
        have HQ := Lib.hid (CPut_any C L.length cc (by omega) (Ch.tL L) (Ch.vL L) (Ch.tL_in HIN.out.2).1 (Ch.tL_in HIN.out.2).2 gen _ HR5.out HE5.out.cl HE5.out.tb)
        rw [hps] at HQ
        have hris := (Ch.okay_rising (Ch.vL L) (Ch.put_ok hps).1).1
        have HSO := Lib.hid (fun W h => Sorted_any C L.length cc (by omega) (Ch.sm (Ch.tL L) (Ch.vL L)) W h)
        rw [hris] at HSO
        clear hps hris HGN HGS
        simp only at HQ
        go_wp2_with fail
        refine HQ.out.mono ?_; rintro e w6 ⟨rfl, hb6⟩
        have HE6 := Lib.hid (HE5.out.later hb6); have HR6 := Lib.hid (HR5.out.later hb6); clear hb6
        have hbs : (s.toList == s.toList) = true := by simp
        go_wp2_with fail
        refine (HSO.out _ HR6.out).mono ?_; rintro e w7 ⟨rfl, hd⟩
        have HE7 := Lib.hid (HE6.out.later hd.below); clear hd
        go_wp2_with fail
        go_ret
        exact ⟨rfl, HE7.out.bel⟩
      · obtain rfl := HGN.out hx
        have hbx : (x == 0) = false := by simpa using hx
        go_wp2_with fail
        go_ret
        exact ⟨rfl, HE5.out.bel⟩
  · have hd : decide ((60 : Int) < (n : Int)) = true ∨ (decide ((60 : Int) < (n : Int)) = false ∧ decide ((600 : Int) < (s.size : Int)) = true) := by
      simp only [decide_eq_true_eq, decide_eq_false_iff_not]; omega
    clear ht hv hl
    rcases hd with d1 | ⟨d1, d2⟩
    all_goals
      go_enter Tryd.func3, Tryd.ntmps3
      go_wp2_with fail
      refine HW.out.mono ?_; rintro e w1 ⟨rfl, hb1⟩
      have HE1 := Lib.hid (HE.out.later hb1); clear hb1
      go_wp2_with fail
      go_ret
      exact ⟨rfl, HE1.out.bel⟩
set_option maxRecDepth 100000 in
theorem chunkBack_walk {H : Type} {enc : TypeId × Value → H} {r : Reach} {b0 : Nat} {x : Value} {d : DataW H} {p : List MemPlace} (w : World) (hT : ClsOk w ∧ TabOk w)
    (hx : Value.okWide Tryd.prog w r b0 22 x) (h : DataW.Trod enc Tryd.prog w 0 (fun _ => true) true 22 x d p) (s : ByteArray) (_hs : s.size ≤ maxLen) (gen : Int) (_hn : (Lit.int .i64 gen).wf = true) :
    Calls Tryd.prog 3 #[x, .string s, .int .i64 gen] w fun e w' => e = .returned (.bool true) ∧ Below w.heap.size w w' := by
  obtain ⟨A, n, c, t, u, rfl, _, hA, h1, h2⟩ := open_smp hx h
  exact chunkBack_walk0 w hT A n c t u hA h1 h2 s gen
end Go.Proofs.YtfgcgjogaaofdaaDoor
