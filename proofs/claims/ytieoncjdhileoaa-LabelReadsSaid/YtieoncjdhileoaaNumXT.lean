/-
  What the functions of the reference alluviumref03 come to: GetText.
-/
import Derived.Test.YtieoncjdhileoaaNumX
namespace Go.Proofs.Ytieoncjdhileoaa
open Go.RowKit

set_option maxRecDepth 100000 in
set_option maxHeartbeats 800000 in
theorem rGetText_any (s : ByteArray) (hs : s.size ≤ 300) (m : Int) (hm : Hid (-9223372036854775808 ≤ m ∧ m ≤ 9223372036854775807)) (w : World) (t r : ByteArray) (o : Bool)
    (ht : t = if Num.xOk m s = true then Num.xV s else ByteArray.empty) (hr : r = if Num.xOk m s = true then s.extract (Num.xN s) s.size else s) (ho : o = Num.xOk m s) :
    Calls Try.prog 44 #[.string s, .int .i64 m] w fun e w' => e = .returned (.tuple #[.string t, .string r, .bool o]) ∧ Below w.heap.size w w' := by
  have hg := rGetSmall_any s hs w _ _ _ rfl rfl rfl
  have hx : Num.xOk m s = ((Num.decp 0 0 s.data.toList).2.2 && decide (0 ≤ m ∧ ((Num.decp 0 0 s.data.toList).1 : Int) ≤ m ∧ (Num.decp 0 0 s.data.toList).1 + (Num.decp 0 0 s.data.toList).2.1 ≤ s.size)) := rfl
  have hN : Num.xN s = (Num.decp 0 0 s.data.toList).2.1 + (Num.decp 0 0 s.data.toList).1 := rfl
  have hV : Num.xV s = s.extract (Num.decp 0 0 s.data.toList).2.1 (Num.xN s) := rfl
  have hkk : (Num.decp 0 0 s.data.toList).2.1 ≤ s.size := by
    have := Num.decp_snd s.data.toList 0 0
    simpa using this
  have hlt : (Num.decp 0 0 s.data.toList).1 < 18446744073709551616 := Num.decp_lt s.data.toList 0 0 (by simp) (by simp)
  generalize Num.decp 0 0 s.data.toList = D at *
  obtain ⟨n, k, ok⟩ := D
  simp only at hg hx hN hV hkk hlt
  generalize Num.xN s = N at *
  generalize Num.xV s = V at *
  have HLT : Hid (n < 18446744073709551616) := Lib.hid hlt
  clear hlt
  cases ok with
  | false =>
    simp only [Bool.false_and] at hx
    rw [hx] at ht hr ho
    simp only [Bool.false_eq_true, if_false] at ht hr hg
    subst ht hr ho
    have HG := Lib.hid hg; clear hg hx hN hV
    go_enter Try.func44, Try.ntmps44
    go_wp2_with fail
    refine HG.out.mono ?_; rintro e w1 ⟨rfl, hb⟩
    have HB := Lib.hid hb; clear hb
    go_wp2_with fail
    go_ret3
    exact ⟨rfl, HB.out⟩
  | true =>
    simp only [Bool.true_and, if_true] at hx hg
    have hz : (s.extract k s.size).size = s.size - k := by simp
    generalize hp : s.extract k s.size = p at *
    by_cases hall : 0 ≤ m ∧ (n : Int) ≤ m ∧ n + k ≤ s.size
    · rw [decide_eq_true hall] at hx
      rw [hx] at ht hr ho
      simp only [if_true] at ht hr
      obtain ⟨a1, a2, a3⟩ := hall
      have c1 : decide ((p.size : Int) < (n : Int)) = false := by simp; omega
      have c2 : decide (m < 0) = false := by simp; omega
      have c3 : IntKind.u64.wrap m = m := by have := hm.out; rw [IntKind.wrap_u64]; omega
      have c4 : decide (m < (n : Int)) = false := by simp; omega
      have c5 : n ≤ p.size := by omega
      have e1 : p.extract 0 n = t := by
        rw [ht, hV, hN, ← hp]
        apply ByteArray.ext; apply Array.toList_inj.1
        simp [ByteArray.data_extract, Array.toList_extract]
        omega
      have e2 : p.extract n p.size = r := by
        rw [hr, hN, hz, ← hp, ByteArray.extract_extract]
        congr 1
        all_goals omega
      rw [hz] at e2
      have HG := Lib.hid hg; have E1 := Lib.hid e1; have E2 := Lib.hid e2; have HO := Lib.hid ho; clear hg e1 e2 ho hx ht hr hN hV
      have i1 : IntKind.i64.wrap (n : Int) = (n : Int) := IntWalk.i64_in _ (by omega)
      have i2 : (0 : Int) ≤ (n : Int) := by omega
      have i3 : (n : Int) ≤ (p.size : Int) := by omega
      go_enter Try.func44, Try.ntmps44
      go_wp2_with fail
      refine HG.out.mono ?_; rintro e w1 ⟨rfl, hb⟩
      have HB := Lib.hid hb; clear hb
      go_wp2_with fail
      go_quiet (fail)
      all_goals go_wp2
      all_goals go_ret3
      all_goals exact ⟨by rw [← E1.out, ← E2.out, HO.out]; rfl, by first | exact HB.out | exact below_drewN HB.out _⟩
    · rw [decide_eq_false hall] at hx
      rw [hx] at ht hr ho
      simp only [Bool.false_eq_true, if_false] at ht hr
      subst ht hr ho
      have hd : decide (p.size < n) = true ∨ (decide (p.size < n) = false ∧ decide (m < 0) = true) ∨ (decide (p.size < n) = false ∧ decide (m < 0) = false ∧ decide (m < (n : Int)) = true ∧ IntKind.u64.wrap m = m) := by
        have := hm.out
        simp only [decide_eq_true_eq, decide_eq_false_iff_not, IntKind.wrap_u64]; omega
      have HG := Lib.hid hg; clear hg hx hN hV hall
      have c0 := Num.wrap_small p.size (by omega)
      clear hz hp
      rcases hd with c1 | ⟨c1, c2⟩ | ⟨c1, c2, c4, c3⟩
      all_goals
        go_enter Try.func44, Try.ntmps44
        go_wp2_with fail
        refine HG.out.mono ?_; rintro e w1 ⟨rfl, hb⟩
        have HB := Lib.hid hb; clear hb
        go_wp2_with fail
        go_ret3
        exact ⟨rfl, HB.out⟩
end Go.Proofs.Ytieoncjdhileoaa
