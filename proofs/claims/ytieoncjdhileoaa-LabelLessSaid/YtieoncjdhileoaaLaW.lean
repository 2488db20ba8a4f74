/-
  LabelLess: the walk of the law.
-/
import Derived.Test.YtieoncjdhileoaaLaV
namespace Go.Proofs.Ytieoncjdhileoaa
open Go.RowKit
theorem u8_bd (c : Int) (h : (Lit.int .u8 c).wf = true) : 0 ≤ c ∧ c ≤ 255 := by
  have h2 : ((decide (IntKind.u8.min ≤ c) && decide (c ≤ IntKind.u8.max)) : Bool) = true := h
  have h3 : IntKind.u8.min = 0 := by decide
  have h4 : IntKind.u8.max = 255 := by decide
  rw [h3, h4, Bool.and_eq_true, decide_eq_true_eq, decide_eq_true_eq] at h2
  exact h2

set_option maxRecDepth 100000 in
set_option maxHeartbeats 2000000 in
theorem labelLess_walk (w : World) (gm : Int) (hgm : w.cell? ⟨0, 0, none⟩ = some (.int .i64 gm)) (A0 : Option Addr) (n0 c0 : Nat) (f0 : Nat → Lab) (hn0 : n0 ≤ maxLen) (hz0 : ∀ i, i < n0 → (f0 i).1.size ≤ maxLen ∧ (f0 i).2.size ≤ maxLen) (hl0 : LabRow w A0 n0 f0) (_hx0 : A0 = none → n0 = 0 ∧ c0 = 0) (_hq0 : n0 ≤ c0) (a : Int) (ha : (Lit.int .u8 a).wf = true) :
    Calls Try.prog 8 #[.slice A0 n0 c0, .int .u8 a] w fun e w' => e = .returned (.bool true) ∧ Below w.heap.size w w' := by
  have Ra0 := Lib.hid hl0; have B0 := Lib.hid (Below.refl w.heap.size w); clear hl0
  have e0 : (((La.err false : Nat) : Int) != 0) = true := by decide
  have e1 : (((La.err true : Nat) : Int) != 0) = false := by decide
  have e2 : (((La.err true : Nat) : Int) == 0) = true := by decide
  cases hf : La.few f0 n0
  · go_enter Try.func8, Try.ntmps8
    go_wp2_with fail
    refine (works_any _ gm hgm).mono ?_; rintro e w1 ⟨rfl, hb1⟩
    have B1 := Lib.hid (below_step B0.out hb1); have Ra1 := Lib.hid (Ra0.out.later hb1); clear hb1 B0 Ra0
    go_wp2_with fail
    refine (Few_any A0 n0 c0 hn0 f0 _ Ra1.out).mono ?_; rintro e w2 ⟨rfl, hb2⟩
    have B2 := Lib.hid (below_step B1.out hb2); have Ra2 := Lib.hid (Ra1.out.later hb2); clear hb2 B1 Ra1
    rw [hf]
    go_wp2_with fail
    go_ret
    exact ⟨rfl, B2.out⟩
  obtain ⟨hF0, hS0⟩ := La.few_yes hf
  have H0 := Lib.hid hf; clear hf
  have hC0 := fun W (hW : LabRow W A0 n0 f0) => Check_any A0 n0 c0 hn0 f0 hz0 W hW
  cases hr0 : La.right f0 n0
  · rw [hr0] at hC0
    have HC0 := Lib.hid hC0; clear hC0 hS0 hz0
    go_enter Try.func8, Try.ntmps8
    go_wp2_with fail
    refine (works_any _ gm hgm).mono ?_; rintro e w1 ⟨rfl, hb1⟩
    have B1 := Lib.hid (below_step B0.out hb1); have Ra1 := Lib.hid (Ra0.out.later hb1); clear hb1 B0 Ra0
    go_wp2_with fail
    refine (Few_any A0 n0 c0 hn0 f0 _ Ra1.out).mono ?_; rintro e w2 ⟨rfl, hb2⟩
    have B2 := Lib.hid (below_step B1.out hb2); have Ra2 := Lib.hid (Ra1.out.later hb2); clear hb2 B1 Ra1
    rw [H0.out]
    go_wp2_with fail
    refine (HC0.out _ Ra2.out).mono ?_; rintro e w3 ⟨rfl, hb3⟩
    have B3 := Lib.hid (below_step B2.out hb3); have Ra3 := Lib.hid (Ra2.out.later hb3); clear hb3 B2 Ra2
    go_wp2_with fail
    go_ret
    exact ⟨rfl, B3.out⟩
  rw [hr0] at hC0
  have HC0 := Lib.hid hC0; clear hC0
  by_cases h2 : n0 < 2
  · have d1 : decide ((n0 : Int) < 2) = true := by simp; omega
    clear hS0 hz0 hr0
    go_enter Try.func8, Try.ntmps8
    go_wp2_with fail
    refine (works_any _ gm hgm).mono ?_; rintro e w1 ⟨rfl, hb1⟩
    have B1 := Lib.hid (below_step B0.out hb1); have Ra1 := Lib.hid (Ra0.out.later hb1); clear hb1 B0 Ra0
    go_wp2_with fail
    refine (Few_any A0 n0 c0 hn0 f0 _ Ra1.out).mono ?_; rintro e w2 ⟨rfl, hb2⟩
    have B2 := Lib.hid (below_step B1.out hb2); have Ra2 := Lib.hid (Ra1.out.later hb2); clear hb2 B1 Ra1
    rw [H0.out]
    go_wp2_with fail
    refine (HC0.out _ Ra2.out).mono ?_; rintro e w3 ⟨rfl, hb3⟩
    have B3 := Lib.hid (below_step B2.out hb3); have Ra3 := Lib.hid (Ra2.out.later hb3); clear hb3 B2 Ra2
    go_wp2_with fail
    go_ret
    exact ⟨rfl, B3.out⟩
  have d1 : decide ((n0 : Int) < 2) = false := by simp; omega
  obtain ⟨ad, rfl⟩ : ∃ ad, A0 = some ad := by
    obtain ⟨ad, e, _⟩ := Ra0.out (by omega); exact ⟨ad, e⟩
  obtain ⟨ha1, ha2⟩ := u8_bd a ha
  obtain ⟨k, hkd⟩ : ∃ k, k = a.toNat % n0 := ⟨_, rfl⟩
  have hkn : k < n0 := by rw [hkd]; exact Nat.mod_lt _ (by omega)
  have hk : (wrap64 a).tmod (n0 : Int) = (k : Int) := by
    rw [show wrap64 a = ((a.toNat : Nat) : Int) from by simp only [wrap64]; omega, hkd]
    exact (Int.ofNat_tmod _ _).symm
  have hk2 : a % (n0 : Int) = (k : Int) := by
    rw [show a = ((a.toNat : Nat) : Int) from by omega, hkd]
    exact (Int.natCast_emod _ _).symm
  clear hkd
  have RX := Ra0
  obtain ⟨i0, hi0, hx0, hx1, hx2⟩ := info_parts info_lab
  have hn6 : n0 ≤ 6 := (La.right_parts hr0).2.1
  have p1 : 0 + k ≤ maxLen := by unfold maxLen; omega
  have p2 : (0 + k) * 32 ≤ 140737488355328 := by omega
  have p3 : (labCells (La.listOf f0 k)).length = k * 2 := by rw [labCells_length, La.listOf_length]
  have p4 : ∀ W, LabRow W (some ad) n0 f0 → ∀ j u, (labCells (La.listOf f0 k))[j]? = some u → W.cell? (ad.add j) = some u := fun W hW => by
    have := lab_news hW 0 k (by omega)
    simpa using this
  have P1 := Lib.hid p1; have P2 := Lib.hid p2; have P3 := Lib.hid p3; have P4 := Lib.hid p4; clear p1 p2 p3 p4
  have q1 : 0 + k + (n0 - (k + 1)) ≤ maxLen := by unfold maxLen; omega
  have q2 : (0 + k + (n0 - (k + 1))) * 32 ≤ 140737488355328 := by omega
  have q3 : (labCells (La.listOf (fun i => f0 (k + 1 + i)) (n0 - (k + 1)))).length = (n0 - (k + 1)) * 2 := by rw [labCells_length, La.listOf_length]
  have Q1 := Lib.hid q1; have Q2 := Lib.hid q2; have Q3 := Lib.hid q3; clear q1 q2
  have hown : ∀ (W : World) v, W.ownsRow w.heap.size 38 2 v (0 + k + (n0 - (k + 1))) ([] ++ labCells (La.listOf f0 k) ++ labCells (La.listOf (fun i => f0 (k + 1 + i)) (n0 - (k + 1)))) → ∃ A c, v = .slice A (n0 - 1) c ∧ LabRow W A (n0 - 1) (La.at_ (La.without f0 n0 k)) := fun W v h => by
    have h2 : W.ownsRow w.heap.size 38 2 v (La.without f0 n0 k).length (labCells (La.without f0 n0 k)) := by
      unfold La.without
      rw [labCells_append, List.length_append, La.listOf_length, La.listOf_length]
      simpa using h
    obtain ⟨A, c, e, _, _, hr⟩ := own_lab h2
    rw [La.without_length f0 hkn] at e hr
    exact ⟨A, c, e, hr⟩
  have HOW := Lib.hid hown; clear hown
  have hgs : ∀ i, i < n0 - 1 → (La.at_ (La.without f0 n0 k) i).1.size ≤ maxLen ∧ (La.at_ (La.without f0 n0 k) i).2.size ≤ maxLen := fun i hi => by
    obtain ⟨j, hj, _, e⟩ := La.without_in (f := f0) hkn hi
    rw [e]; exact hz0 j hj
  have hgr := La.without_right hr0 (by omega) hkn
  have hgl := La.without_longest (f := f0) hkn
  have hgg := La.without_get hr0 hkn
  have hCL := fun A c W (hW : LabRow W A (n0 - 1) (La.at_ (La.without f0 n0 k))) => Check_any A (n0 - 1) c (by unfold maxLen; omega) _ hgs W hW
  have hLL := fun A c W (hW : LabRow W A (n0 - 1) (La.at_ (La.without f0 n0 k))) => Longest_any A (n0 - 1) c (by unfold maxLen; omega) _ hgs W hW
  have hL0 := fun W (hW : LabRow W (some ad) n0 f0) => Longest_any (some ad) n0 c0 hn0 f0 hz0 W hW
  have hGL := fun A c W (hW : LabRow W A (n0 - 1) (La.at_ (La.without f0 n0 k))) => Get_any A (n0 - 1) c (by unfold maxLen; omega) _ (f0 k).1 W hW
  rw [hgr] at hCL
  rw [hgg] at hGL
  clear hgr hgg hgs
  generalize La.at_ (La.without f0 n0 k) = g at *
  generalize La.longest g (n0 - 1) = lg at *
  generalize La.longest f0 n0 = lf at *
  have hXK : ∀ W, Below w.heap.size w W → W.cell? (ad.add (k * 2)) = some (.string (f0 k).1) := fun W hW => by
    obtain ⟨ad2, e, x0, _⟩ := RX.out.at_ hW hkn
    cases e; exact x0
  generalize (f0 k).1 = xk at *
  have HCL := Lib.hid hCL; have HLL := Lib.hid hLL; have HL0 := Lib.hid hL0; have HGL := Lib.hid hGL; have HXK := Lib.hid hXK
  clear hCL hLL hL0 hGL hXK hr0 hS0 hz0
  have hemp : ByteArray.empty.toList.isEmpty = true := by rw [ByteArray.toList_eq]; rfl
  by_cases hc : c0 = k + 1
  · subst hc
    have hz : n0 - (k + 1) = 0 := by omega
    rw [hz] at HOW
    clear q3 Q1 Q2 Q3 hz
    go_enter Try.func8, Try.ntmps8
    go_wp2_with fail
    refine (works_any _ gm hgm).mono ?_; rintro e w1 ⟨rfl, hb1⟩
    have B1 := Lib.hid (below_step B0.out hb1); have Ra1 := Lib.hid (Ra0.out.later hb1); clear hb1 B0 Ra0
    go_wp2_with fail
    refine (Few_any (some ad) n0 (k + 1) hn0 f0 _ Ra1.out).mono ?_; rintro e w2 ⟨rfl, hb2⟩
    have B2 := Lib.hid (below_step B1.out hb2); have Ra2 := Lib.hid (Ra1.out.later hb2); clear hb2 B1 Ra1
    rw [H0.out]
    go_wp2_with fail
    refine (HC0.out _ Ra2.out).mono ?_; rintro e w3 ⟨rfl, hb3⟩
    have B3 := Lib.hid (below_step B2.out hb3); have Ra3 := Lib.hid (Ra2.out.later hb3); clear hb3 B2 Ra2
    go_wp2_with (at_builtin; first | (refine wpList_append_own _ rfl _ _ 22 rfl w.heap.size 38 i0 (.agg #[.string ByteArray.empty, .string ByteArray.empty]) 2 32 Try.underlying22 hi0 hx0 hx1 hx2 rfl (by decide) _ _ _ rfl (World.ownsRow_nil _ _ _ _) ad k (k + 1) (labCells (La.listOf f0 k)) rfl P3.out (P4.out _ Ra3.out) (lab_one _) P1.out P2.out B3.out.size ?_; intro v5 w5 hown5 hgr5 _; have HOWN5 := Lib.hid hown5; have HB5 := Lib.hid (B3.out.grown hgr5 B3.out.size (fun b hv => (by cases hv))); clear hown5 hgr5) | (refine wpList_append_own _ rfl _ _ 22 rfl w.heap.size 38 i0 (.agg #[.string ByteArray.empty, .string ByteArray.empty]) 2 32 Try.underlying22 hi0 hx0 hx1 hx2 rfl (by decide) _ _ _ rfl HOWN5.out ad 0 0 [] rfl rfl (fun j u hu => by simp at hu) (fun u hu => by cases hu) P1.out P2.out HB5.out.size ?_; intro v6 w6 hown6 hgr6 _; have HB6 := Lib.hid (HB5.out.grown hgr6 HB5.out.size (fun b hv => (HOWN5.out.lt b hv).1)); obtain ⟨A6, c6, rfl, hrow6⟩ := HOW.out _ _ hown6; have HR6 := Lib.hid hrow6; clear hown6 hgr6 hrow6))
    have Rb6 := HR6; have Ra6 := Lib.hid (RX.out.later HB6.out); have B6 := HB6; clear HR6 HB6 HB5 B3 Ra3
    refine (HCL.out _ _ _ Rb6.out).mono ?_; rintro e w7 ⟨rfl, hb7⟩
    have B7 := Lib.hid (below_step B6.out hb7); have Ra7 := Lib.hid (Ra6.out.later hb7); have Rb7 := Lib.hid (Rb6.out.later hb7); clear hb7 B6 Ra6 Rb6
    go_wp2_with fail
    refine (HLL.out _ _ _ Rb7.out).mono ?_; rintro e w8 ⟨rfl, hb8⟩
    have B8 := Lib.hid (below_step B7.out hb8); have Ra8 := Lib.hid (Ra7.out.later hb8); have Rb8 := Lib.hid (Rb7.out.later hb8); clear hb8 B7 Ra7 Rb7
    go_wp2_with fail
    refine (HL0.out _ Ra8.out).mono ?_; rintro e w9 ⟨rfl, hb9⟩
    have B9 := Lib.hid (below_step B8.out hb9); have Ra9 := Lib.hid (Ra8.out.later hb9); have Rb9 := Lib.hid (Rb8.out.later hb9); clear hb9 B8 Ra8 Rb8
    have xk0 := HXK.out _ B9.out
    go_wp2_with fail
    refine (HGL.out _ _ _ Rb9.out).mono ?_; rintro e w10 ⟨rfl, hb10⟩
    have B10 := Lib.hid (below_step B9.out hb10); have Ra10 := Lib.hid (Ra9.out.later hb10); have Rb10 := Lib.hid (Rb9.out.later hb10); clear hb10 B9 Ra9 Rb9
    go_wp2_with fail
    go_ret
    exact ⟨rfl, B10.out⟩
  · have hc2 : ¬ (k + 1 = c0) := fun e => hc e.symm
    have hc3 : ¬ (c0 - (k + 1) = 0) := by omega
    have q4 : ∀ W, Below w.heap.size w W → ∀ j u, (labCells (La.listOf (fun i => f0 (k + 1 + i)) (n0 - (k + 1))))[j]? = some u → W.cell? ((ad.add ((k + 1) * 2)).add j) = some u := fun W hW j u hu => by
      rw [Go.Deep.add_add]
      exact lab_news (RX.out.later hW) (k + 1) (n0 - (k + 1)) (by omega) j u hu
    have Q4 := Lib.hid q4; clear q4 q3
    go_enter Try.func8, Try.ntmps8
    go_wp2_with fail
    refine (works_any _ gm hgm).mono ?_; rintro e w1 ⟨rfl, hb1⟩
    have B1 := Lib.hid (below_step B0.out hb1); have Ra1 := Lib.hid (Ra0.out.later hb1); clear hb1 B0 Ra0
    go_wp2_with fail
    refine (Few_any (some ad) n0 c0 hn0 f0 _ Ra1.out).mono ?_; rintro e w2 ⟨rfl, hb2⟩
    have B2 := Lib.hid (below_step B1.out hb2); have Ra2 := Lib.hid (Ra1.out.later hb2); clear hb2 B1 Ra1
    rw [H0.out]
    go_wp2_with fail
    refine (HC0.out _ Ra2.out).mono ?_; rintro e w3 ⟨rfl, hb3⟩
    have B3 := Lib.hid (below_step B2.out hb3); have Ra3 := Lib.hid (Ra2.out.later hb3); clear hb3 B2 Ra2
    go_wp2_with (at_builtin; first | (refine wpList_append_own _ rfl _ _ 22 rfl w.heap.size 38 i0 (.agg #[.string ByteArray.empty, .string ByteArray.empty]) 2 32 Try.underlying22 hi0 hx0 hx1 hx2 rfl (by decide) _ _ _ rfl (World.ownsRow_nil _ _ _ _) ad k c0 (labCells (La.listOf f0 k)) rfl P3.out (P4.out _ Ra3.out) (lab_one _) P1.out P2.out B3.out.size ?_; intro v5 w5 hown5 hgr5 _; have HOWN5 := Lib.hid hown5; have HB5 := Lib.hid (B3.out.grown hgr5 B3.out.size (fun b hv => (by cases hv))); clear hown5 hgr5) | (refine wpList_append_own _ rfl _ _ 22 rfl w.heap.size 38 i0 (.agg #[.string ByteArray.empty, .string ByteArray.empty]) 2 32 Try.underlying22 hi0 hx0 hx1 hx2 rfl (by decide) _ _ _ rfl HOWN5.out (ad.add ((k + 1) * 2)) (n0 - (k + 1)) (c0 - (k + 1)) (labCells (La.listOf (fun i => f0 (k + 1 + i)) (n0 - (k + 1)))) rfl Q3.out (Q4.out _ HB5.out) (lab_one _) Q1.out Q2.out HB5.out.size ?_; intro v6 w6 hown6 hgr6 _; have HB6 := Lib.hid (HB5.out.grown hgr6 HB5.out.size (fun b hv => (HOWN5.out.lt b hv).1)); obtain ⟨A6, c6, rfl, hrow6⟩ := HOW.out _ _ hown6; have HR6 := Lib.hid hrow6; clear hown6 hgr6 hrow6))
    have Rb6 := HR6; have Ra6 := Lib.hid (RX.out.later HB6.out); have B6 := HB6; clear HR6 HB6 HB5 B3 Ra3
    refine (HCL.out _ _ _ Rb6.out).mono ?_; rintro e w7 ⟨rfl, hb7⟩
    have B7 := Lib.hid (below_step B6.out hb7); have Ra7 := Lib.hid (Ra6.out.later hb7); have Rb7 := Lib.hid (Rb6.out.later hb7); clear hb7 B6 Ra6 Rb6
    go_wp2_with fail
    refine (HLL.out _ _ _ Rb7.out).mono ?_; rintro e w8 ⟨rfl, hb8⟩
    have B8 := Lib.hid (below_step B7.out hb8); have Ra8 := Lib.hid (Ra7.out.later hb8); have Rb8 := Lib.hid (Rb7.out.later hb8); clear hb8 B7 Ra7 Rb7
    go_wp2_with fail
    refine (HL0.out _ Ra8.out).mono ?_; rintro e w9 ⟨rfl, hb9⟩
    have B9 := Lib.hid (below_step B8.out hb9); have Ra9 := Lib.hid (Ra8.out.later hb9); have Rb9 := Lib.hid (Rb8.out.later hb9); clear hb9 B8 Ra8 Rb8
    have xk0 := HXK.out _ B9.out
    go_wp2_with fail
    refine (HGL.out _ _ _ Rb9.out).mono ?_; rintro e w10 ⟨rfl, hb10⟩
    have B10 := Lib.hid (below_step B9.out hb10); have Ra10 := Lib.hid (Ra9.out.later hb10); have Rb10 := Lib.hid (Rb9.out.later hb10); clear hb10 B9 Ra9 Rb9
    go_wp2_with fail
    go_ret
    exact ⟨rfl, B10.out⟩
end Go.Proofs.Ytieoncjdhileoaa
