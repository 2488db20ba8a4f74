/-
  What the functions of the reference alluviumref03 come to: GetFixed.
-/
import Derived.Test.YtkknagfeceljdaaNumXT
import Derived.Deep.DeepCutAuto
namespace Go.Proofs.Ytkknagfeceljdaa
open Go.RowKit

set_option maxRecDepth 100000 in
set_option maxHeartbeats 800000 in
theorem rGetFixed_any (s : ByteArray) (hs : s.size ≤ 300) (n : Int) (w : World) (t r : ByteArray) (o : Bool)
    (ht : t = if Num.fAll (Num.sz n) s = true then Num.fT (Num.sz n) s else ByteArray.empty) (hr : r = if Num.fAll (Num.sz n) s = true then s.extract (Num.fN (Num.sz n) s) s.size else s) (ho : o = Num.fAll (Num.sz n) s) :
    Calls Try.prog 30 #[.string s, .int .i64 n] w fun e w' => e = .returned (.tuple #[.string t, .string r, .bool o]) ∧ Below w.heap.size w w' := by
  have hk := Num.sz_le n
  have hn : n < 0 ∧ Num.sz n = 0 ∨ (0 ≤ n ∧ n ≤ 255 ∧ (Num.sz n : Int) = n) ∨ (255 < n ∧ Num.sz n = 255) := by unfold Num.sz; omega
  generalize hK : Num.sz n = z at *
  have HT := Lib.hid ht; have HR := Lib.hid hr; have HO := Lib.hid ho; clear ht hr ho
  go_enter Try.func30, Try.ntmps30
  go_upto_region 1 with fail
  go_cut [1] (fun s1 wx => s1 = .int .i64 (z : Nat) ∧ w = wx)
  case first =>
    rcases hn with ⟨h1, rfl⟩ | ⟨h1, h2, rfl⟩ | ⟨h1, rfl⟩
    all_goals go_wp2_with fail
    all_goals go_meet
    all_goals exact ⟨rfl, rfl⟩
  case rest =>
  obtain ⟨rfl, rfl⟩ := hcut
  clear hn hK n
  by_cases hz : z < s.size
  · have d1 : decide ((s.size : Int) < (z : Int) + 1) = false := by simp; omega
    have hb := Num.byteAt_eq s z hz
    have i1 : IntKind.i64.wrap ((z : Int) + 1) = (z : Int) + 1 := IntWalk.i64_in _ (by omega)
    have i2 : (0 : Int) ≤ (z : Int) + 1 := by omega
    have i3 : (z : Int) + 1 ≤ (s.size : Int) := by omega
    have i4 : ((z : Int) + 1).toNat = z + 1 := by omega
    have hc := Num.byteAt_lt s z
    have hf : Num.fAll z s = (decide (z < s.size ∧ Num.byteAt s z ≤ z) && Num.fOk z s) := rfl
    have hT : Num.byteAt s z ≤ z → Num.fT z s = s.extract 0 (Num.byteAt s z) := fun h => by unfold Num.fT; rw [if_pos ⟨hz, h⟩]; rfl
    have hN : Num.byteAt s z ≤ z → Num.fN z s = z + 1 := fun h => by unfold Num.fN; rw [if_pos ⟨hz, h⟩]
    have hO : Num.fOk z s = decide (Num.fixedB (s.extract 0 (Num.byteAt s z)) z = s.extract 0 (z + 1)) := rfl
    generalize Num.byteAt s z = c at *
    have w1' : wrap64 (c : Int) = (c : Int) := IntWalk.wrap64_in _ ⟨by omega, by omega⟩
    by_cases hcz : c ≤ z
    · rw [decide_eq_true ⟨hz, hcz⟩, Bool.true_and, hO] at hf
      have d2 : decide (z < c) = false := by simp; omega
      have j2 : (c : Int) ≤ (s.size : Int) := by omega
      have j3 : c ≤ s.size := by omega
      have hx : (s.extract 0 c).size ≤ 300 := by simp; omega
      have HX := Lib.hid hx
      by_cases hok : Num.fixedB (s.extract 0 c) z = s.extract 0 (z + 1)
      · rw [decide_eq_true hok] at hf
        have h1 := HT.out; have h2 := HR.out; have h3 := HO.out
        rw [hf] at h1 h2 h3
        simp only [if_true] at h1 h2
        rw [hT hcz] at h1
        rw [hN hcz] at h2
        have H1 := Lib.hid h1; have H2 := Lib.hid h2; have H3 := Lib.hid h3; have HEQ := Lib.hid hok
        clear hf hT hN hO h1 h2 h3 hok HT HR HO hx
        go_wp2_with fail
        go_region_held3 (fun W => Below w.heap.size w W) (first | exact Below.refl _ _ | exact Below.drew (Below.refl _ _) | assumption | exact Below.drew ‹_›)
          (first | (go_at_call 18; refine (rFixed_any (s.extract 0 c) HX.out (z : Nat) _).mono ?_; rintro e w1 ⟨rfl, hb⟩; replace hb := below_step (by assumption) hb; rw [Num.sz_nat z hk, HEQ.out]))
        all_goals go_wp2_with fail
        all_goals go_quiet (fail)
        all_goals go_wp2
        all_goals go_ret3
        all_goals exact ⟨by rw [H1.out, H2.out, H3.out]; rfl, by first | assumption | exact below_drewN (by assumption) _⟩
      · rw [decide_eq_false hok] at hf
        have h1 := HT.out; have h2 := HR.out; have h3 := HO.out
        rw [hf] at h1 h2 h3
        simp only [Bool.false_eq_true, if_false] at h1 h2
        subst h1 h2 h3
        have hne : ((Num.fixedB (r.extract 0 c) z).toList == (r.extract 0 (z + 1)).toList) = false := by
          rw [str_beq]; exact decide_eq_false hok
        clear hf hT hN hO hok HT HR HO hx
        go_wp2_with fail
        go_region_held3 (fun W => Below w.heap.size w W) (first | exact Below.refl _ _ | exact Below.drew (Below.refl _ _) | assumption | exact Below.drew ‹_›)
          (first | (go_at_call 18; refine (rFixed_any (r.extract 0 c) HX.out (z : Nat) _).mono ?_; rintro e w1 ⟨rfl, hb⟩; replace hb := below_step (by assumption) hb; rw [Num.sz_nat z hk]))
        all_goals go_wp2
        all_goals go_ret3
        all_goals exact ⟨rfl, by first | assumption | exact below_drewN (by assumption) _⟩
    · have d2 : decide (z < c) = true := by simp; omega
      have hf2 : Num.fAll z s = false := by rw [hf]; simp; omega
      have h1 := HT.out; have h2 := HR.out; have h3 := HO.out
      rw [hf2] at h1 h2 h3
      simp only [Bool.false_eq_true, if_false] at h1 h2
      subst h1 h2 h3
      clear hf hf2 hT hN hO HT HR HO
      go_wp2_with fail
      go_quiet (fail)
      all_goals go_wp2
      all_goals go_ret3
      all_goals exact ⟨rfl, by first | exact Below.refl _ _ | exact below_drewN (Below.refl _ _) _⟩
  · have d1 : decide ((s.size : Int) < (z : Int) + 1) = true := by simp; omega
    have hf : Num.fAll z s = false := by unfold Num.fAll; simp; omega
    have h1 := HT.out; have h2 := HR.out; have h3 := HO.out
    rw [hf] at h1 h2 h3
    simp only [Bool.false_eq_true, if_false] at h1 h2
    subst h1 h2 h3
    clear hf HT HR HO
    go_wp2_with fail
    go_ret3
    exact ⟨rfl, Below.refl _ _⟩
end Go.Proofs.Ytkknagfeceljdaa
