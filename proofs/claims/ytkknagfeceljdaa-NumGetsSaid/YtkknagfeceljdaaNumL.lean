/-
  NumPuts, NumZig, NumSizes: the walks of the laws, given what works comes to.
-/
import Derived.Test.YtkknagfeceljdaaNumS
namespace Go.Proofs.Ytkknagfeceljdaa
open Go.RowKit

def WorksOk : Prop := ∀ w : World, Calls Try.prog 10 #[] w fun e w' => e = .returned (.bool true) ∧ Below w.heap.size w w'

theorem u64_nat (c : Int) (h : (Lit.int .u64 c).wf = true) : ∃ n : Nat, c = n ∧ Hid (n < 18446744073709551616) := by
  have hx : 0 ≤ c ∧ c ≤ 18446744073709551615 := by simpa [Lit.wf, IntKind.min, IntKind.max, IntKind.signed, IntKind.bits] using h
  exact ⟨c.toNat, by omega, Lib.hid (by omega)⟩
theorem i64_bd (c : Int) (h : (Lit.int .i64 c).wf = true) : Hid (-9223372036854775808 ≤ c ∧ c ≤ 9223372036854775807) := by
  have hx : -9223372036854775808 ≤ c ∧ c ≤ 9223372036854775807 := by simpa [Lit.wf, IntKind.min, IntKind.max, IntKind.signed, IntKind.bits] using h
  exact Lib.hid hx

set_option maxRecDepth 100000 in
set_option maxHeartbeats 400000 in
theorem numPuts_walk0 (hW : WorksOk) (w : World) (n : Int) (hn : (Lit.int .u64 n).wf = true) (i : Int) (hi : (Lit.int .i64 i).wf = true) (t : ByteArray) (ht : t.size ≤ maxLen) (k : Int) (_hk : (Lit.int .i64 k).wf = true) :
    Calls Try.prog 3 #[.int .u64 n, .int .i64 i, .string t, .int .i64 k] w fun e w' => e = .returned (.bool true) ∧ Below w.heap.size w w' := by
  obtain ⟨m, rfl, HM⟩ := u64_nat n hn
  have HI := i64_bd i hi
  clear hn hi _hk
  by_cases hl : t.size ≤ 300
  · have hd1 : decide ((300 : Int) < (t.size : Int)) = false := by simp; omega
    go_enter Try.func3, Try.ntmps3
    have HB0 := Lib.hid (Below.refl w.heap.size w)
    go_wp2_with fail
    refine (hW _).mono ?_; rintro e w1 ⟨rfl, hb1⟩; have HB1 := Lib.hid (below_step HB0.out hb1); clear hb1 HB0
    go_wp2_with fail
    refine (Small_any m HM _).mono ?_; rintro e w2 ⟨rfl, hb2⟩; have HB2 := Lib.hid (below_step HB1.out hb2); clear hb2 HB1
    go_wp2_with fail
    refine (rSmall_any m HM _).mono ?_; rintro e w3 ⟨rfl, hb3⟩; have HB3 := Lib.hid (below_step HB2.out hb3); clear hb3 HB2
    go_wp2_with fail
    refine (Wide_any m _).mono ?_; rintro e w4 ⟨rfl, hb4⟩; have HB4 := Lib.hid (below_step HB3.out hb4); clear hb4 HB3
    go_wp2_with fail
    refine (rWide_any m HM _).mono ?_; rintro e w5 ⟨rfl, hb5⟩; have HB5 := Lib.hid (below_step HB4.out hb5); clear hb5 HB4
    go_wp2_with fail
    refine (Text_any t hl _).mono ?_; rintro e w6 ⟨rfl, hb6⟩; have HB6 := Lib.hid (below_step HB5.out hb6); clear hb6 HB5
    go_wp2_with fail
    refine (rText_any t hl _).mono ?_; rintro e w7 ⟨rfl, hb7⟩; have HB7 := Lib.hid (below_step HB6.out hb7); clear hb7 HB6
    go_wp2_with fail
    refine (Fixed_any t ht k _).mono ?_; rintro e w8 ⟨rfl, hb8⟩; have HB8 := Lib.hid (below_step HB7.out hb8); clear hb8 HB7
    go_wp2_with fail
    refine (rFixed_any t hl k _).mono ?_; rintro e w9 ⟨rfl, hb9⟩; have HB9 := Lib.hid (below_step HB8.out hb9); clear hb9 HB8
    go_wp2_with fail
    refine (Zig_any i HI _).mono ?_; rintro e wx ⟨rfl, rfl⟩
    go_wp2_with fail
    refine (rZig_any i HI _).mono ?_; rintro e wx ⟨rfl, rfl⟩
    go_wp2_with fail
    refine (Zag_any m HM _).mono ?_; rintro e wx ⟨rfl, rfl⟩
    go_wp2_with fail
    refine (rZag_any m HM _).mono ?_; rintro e wx ⟨rfl, rfl⟩
    go_wp2_with fail
    go_ret
    exact ⟨by simp, HB9.out⟩
  · have hd : decide ((300 : Int) < (t.size : Int)) = true := by simp; omega
    go_enter Try.func3, Try.ntmps3
    have HB0 := Lib.hid (Below.refl w.heap.size w)
    go_wp2_with fail
    refine (hW _).mono ?_; rintro e w1 ⟨rfl, hb1⟩; have HB1 := Lib.hid (below_step HB0.out hb1); clear hb1 HB0
    go_wp2_with fail
    go_ret
    exact ⟨rfl, HB1.out⟩

set_option maxRecDepth 100000 in
set_option maxHeartbeats 400000 in
theorem numZig_walk0 (hW : WorksOk) (w : World) (a : Int) (ha : (Lit.int .i64 a).wf = true) :
    Calls Try.prog 7 #[.int .i64 a] w fun e w' => e = .returned (.bool true) ∧ Below w.heap.size w w' := by
  have HA := i64_bd a ha
  clear ha
  by_cases hp : 0 ≤ a
  · have e0 : ((Num.zig a : Nat) : Int) = 2 * a := by unfold Num.zig; rw [if_pos hp]; omega
    have e1 : ((Num.zig a : Nat) : Int) % 2 = 0 := by omega
    have e2 : IntKind.u64.wrap (((Num.zig a : Nat) : Int) / 2) = a := by have := HA.out; rw [IntKind.wrap_u64]; omega
    have e3 : IntKind.u64.wrap a = a := by have := HA.out; rw [IntKind.wrap_u64]; omega
    clear e0
    go_enter Try.func7, Try.ntmps7
    have HB0 := Lib.hid (Below.refl w.heap.size w)
    go_wp2_with fail
    refine (hW _).mono ?_; rintro e w1 ⟨rfl, hb1⟩; have HB1 := Lib.hid (below_step HB0.out hb1); clear hb1 HB0
    go_wp2_with fail
    refine (Zig_any a HA _).mono ?_; rintro e wx ⟨rfl, rfl⟩
    go_wp2_with fail
    go_ret
    exact ⟨by simp, HB1.out⟩
  · have e0 : ((Num.zig a : Nat) : Int) = -2 * a - 1 := by unfold Num.zig; rw [if_neg hp]; omega
    have e1 : ((Num.zig a : Nat) : Int) % 2 = 1 := by omega
    have e2 : wrap64 (-wrap64 (a + 1)) = -(a + 1) := by have := HA.out; simp only [wrap64]; omega
    have e3 : IntKind.u64.wrap (((Num.zig a : Nat) : Int) - 1) = ((Num.zig (-(a + 1)) : Nat) : Int) := by
      have := HA.out
      have : ((Num.zig (-(a + 1)) : Nat) : Int) = -2 * (a + 1) := by unfold Num.zig; rw [if_pos (by omega)]; omega
      rw [IntKind.wrap_u64]; omega
    have HA2 : Hid (-9223372036854775808 ≤ -(a + 1) ∧ -(a + 1) ≤ 9223372036854775807) := Lib.hid (by have := HA.out; omega)
    clear e0
    go_enter Try.func7, Try.ntmps7
    have HB0 := Lib.hid (Below.refl w.heap.size w)
    go_wp2_with fail
    refine (hW _).mono ?_; rintro e w1 ⟨rfl, hb1⟩; have HB1 := Lib.hid (below_step HB0.out hb1); clear hb1 HB0
    go_wp2_with fail
    refine (Zig_any a HA _).mono ?_; rintro e wx ⟨rfl, rfl⟩
    go_wp2_with fail
    rw [e2]
    refine (Zig_any (-(a + 1)) HA2 _).mono ?_; rintro e wx ⟨rfl, rfl⟩
    go_wp2_with fail
    go_ret
    exact ⟨by simp, HB1.out⟩

theorem Num.small_pos (n : Nat) : 1 ≤ (smallB n).size := Num.enc_length_pos 9 _
theorem Num.small_mono (a b : Nat) (h : a ≤ b) : (smallB a).size ≤ (smallB b).size := Num.enc_mono 9 a b h
theorem Num.wideB_size (n : Nat) : (wideB n).size = 8 := Num.le_length _ _

set_option maxRecDepth 100000 in
set_option maxHeartbeats 400000 in
theorem numSizes_walk0 (hW : WorksOk) (w : World) (a : Int) (ha : (Lit.int .u64 a).wf = true) (b : Int) (hb : (Lit.int .u64 b).wf = true) (t : ByteArray) (ht : t.size ≤ maxLen) (k : Int) (_hk : (Lit.int .i64 k).wf = true) :
    Calls Try.prog 8 #[.int .u64 a, .int .u64 b, .string t, .int .i64 k] w fun e w' => e = .returned (.bool true) ∧ Below w.heap.size w w' := by
  obtain ⟨m, rfl, HM⟩ := u64_nat a ha
  obtain ⟨n, rfl, HN⟩ := u64_nat b hb
  clear ha hb _hk
  by_cases hl : t.size ≤ 300
  · have hd1 : decide ((300 : Int) < (t.size : Int)) = false := by simp; omega
    have g1 := Num.small_pos m
    have g2 := Num.small_size m
    have g3 := Num.small_pos n
    have g4 := Num.small_size n
    have g5 := Num.wideB_size m
    have g6 := Num.fixedB_size t (Num.sz k)
    have g7 := Num.small_mono m n
    have hk : k < 0 ∧ Num.sz k = 0 ∨ (0 ≤ k ∧ k ≤ 255 ∧ (Num.sz k : Int) = k) ∨ (255 < k ∧ Num.sz k = 255) := by unfold Num.sz; omega
    have hmn : decide (n < m) = true ∨ (decide (n < m) = false ∧ (Num.smallB m).size ≤ (Num.smallB n).size) := by
      rcases Nat.lt_or_ge n m with h | h
      · left; simpa using h
      · right; exact ⟨by simpa using h, g7 h⟩
    clear g7
    have HG6 := Lib.hid g6; clear g6
    generalize hK : Num.sz k = z at *
    have HK := Lib.hid hK; clear hK
    rcases hk with ⟨h1, rfl⟩ | ⟨h1, h2, rfl⟩ | ⟨h1, rfl⟩
    all_goals rcases hmn with h3 | ⟨h3, h4⟩
    all_goals
      go_enter Try.func8, Try.ntmps8
      have HB0 := Lib.hid (Below.refl w.heap.size w)
      go_wp2_with fail
      refine (hW _).mono ?_; rintro e w1 ⟨rfl, hb1⟩; have HB1 := Lib.hid (below_step HB0.out hb1); clear hb1 HB0
      go_wp2_with fail
      refine (Small_any m HM _).mono ?_; rintro e w2 ⟨rfl, hb2⟩; have HB2 := Lib.hid (below_step HB1.out hb2); clear hb2 HB1
      go_wp2_with fail
      refine (Small_any n HN _).mono ?_; rintro e w3 ⟨rfl, hb3⟩; have HB3 := Lib.hid (below_step HB2.out hb3); clear hb3 HB2
      go_wp2_with fail
      refine (Wide_any m _).mono ?_; rintro e w4 ⟨rfl, hb4⟩; have HB4 := Lib.hid (below_step HB3.out hb4); clear hb4 HB3
      go_wp2_with fail
      refine (Fixed_any t ht _ _).mono ?_; rintro e w5 ⟨rfl, hb5⟩; have HB5 := Lib.hid (below_step HB4.out hb5); clear hb5 HB4
      rw [HK.out]
      have hg6 := HG6.out
      go_wp2_with fail
      all_goals go_ret
      all_goals refine ⟨?_, HB5.out⟩
      all_goals first | rfl | simp | (simp; omega)
  · have hd : decide ((300 : Int) < (t.size : Int)) = true := by simp; omega
    go_enter Try.func8, Try.ntmps8
    have HB0 := Lib.hid (Below.refl w.heap.size w)
    go_wp2_with fail
    refine (hW _).mono ?_; rintro e w1 ⟨rfl, hb1⟩; have HB1 := Lib.hid (below_step HB0.out hb1); clear hb1 HB0
    go_wp2_with fail
    go_ret
    exact ⟨rfl, HB1.out⟩
end Go.Proofs.Ytkknagfeceljdaa
