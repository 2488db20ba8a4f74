/-
  MatchParts: the mathematics, and the walk of the law.
-/
import Derived.Test.YtcdlkiephdghlaaMaH
namespace Go.Proofs.Ytcdlkiephdghlaa
open Go.RowKit
namespace Ma
theorem sel_split (b : Nat → Bool) : ∀ n, (sel b n).length + (sel (fun i => !b i) n).length = n
  | 0 => rfl
  | n + 1 => by
    have ih := sel_split b n
    cases hb : b n
    · rw [sel_no hb, sel_yes (b := fun i => !b i) (by simp [hb]), List.length_append]; simp; omega
    · rw [sel_yes hb, sel_no (b := fun i => !b i) (by simp [hb]), List.length_append]; simp; omega
theorem sel_all {b : Nat → Bool} : ∀ n, (∀ i, i < n → b i = true) → sel b n = List.range n
  | 0, _ => rfl
  | n + 1, h => by rw [sel_yes (h n (by omega)), sel_all n (fun i hi => h i (by omega)), List.range_succ]
theorem sel_nothing {b : Nat → Bool} : ∀ n, (∀ i, i < n → b i = false) → sel b n = []
  | 0, _ => rfl
  | n + 1, h => by rw [sel_no (h n (by omega)), sel_nothing n (fun i hi => h i (by omega))]
theorem sel_mem {b : Nat → Bool} {n j : Nat} (hj : j < (sel b n).length) : b ((sel b n).getD j 0) = true ∧ (sel b n).getD j 0 < n := by
  have hm : (sel b n).getD j 0 ∈ sel b n := by
    rw [List.getD_eq_getElem?_getD, List.getElem?_eq_getElem hj, Option.getD_some]
    exact List.getElem_mem hj
  unfold sel at hm
  rw [List.mem_filter, List.mem_range] at hm
  exact ⟨hm.2, hm.1⟩
theorem sel_lt {b : Nat → Bool} {n j : Nat} (hj : j + 1 < (sel b n).length) : (sel b n).getD j 0 < (sel b n).getD (j + 1) 0 := by
  have hp : (sel b n).Pairwise (· < ·) := List.Pairwise.filter _ List.pairwise_lt_range
  rw [List.pairwise_iff_getElem] at hp
  rw [List.getD_eq_getElem?_getD, List.getD_eq_getElem?_getD, List.getElem?_eq_getElem (show j < (sel b n).length by omega), List.getElem?_eq_getElem hj]
  exact hp j (j + 1) (by omega) hj (by omega)
theorem rising_up {s : Nat → Sam} {n : Nat} (h : rising s n = true) (i : Nat) : ∀ j, i < j → j < n → (s i).t < (s j).t
  | 0, h1, _ => absurd h1 (Nat.not_lt_zero i)
  | j + 1, h1, h2 => by
    have hs : (s j).t < (s (j + 1)).t := by
      unfold rising at h
      rw [List.all_eq_true] at h
      simpa using h j (List.mem_range.2 (by omega))
    rcases Nat.lt_or_ge i j with h3 | h3
    · have := rising_up h i j h3 (by omega); omega
    · obtain rfl : i = j := by omega
      exact hs
theorem rising_sel {s : Nat → Sam} {n : Nat} (h : rising s n = true) (b : Nat → Bool) : rising (fun j => s ((sel b n).getD j 0)) (sel b n).length = true :=
  rising_yes (fun _ hi => rising_up h _ _ (sel_lt hi) (sel_mem hi).2)
theorem getD_range {n j : Nat} (h : j < n) : (List.range n).getD j 0 = j := by simp [List.getD, h]
end Ma
theorem Row.eqOn {s s2 : Nat → Sam} {w : World} {A : Option Addr} {n : Nat} (h : Row 2 (sx s) w A n) (he : ∀ i, i < n → s i = s2 i) : Row 2 (sx s2) w A n := fun hn => by
  obtain ⟨ad, e, hlt, hc⟩ := h hn
  refine ⟨ad, e, hlt, fun i hi j hj => ?_⟩
  rw [hc i hi j hj]; unfold sx; rw [he i hi]

set_option maxRecDepth 100000 in
set_option maxHeartbeats 2000000 in
theorem matchParts_walk0 (w : World) (A : Option Addr) (n c : Nat) (s : Nat → Sam) (hn : n ≤ maxLen) (hA : Row 2 (sx s) w A n) (lo hi : Int) :
    Calls Try.prog 7 #[.slice A n c, .int .i64 lo, .int .i64 hi] w fun e w' => e = .returned (.bool true) ∧ Below w.heap.size w w' := by
  have R0 := Lib.hid hA; have B0 := Lib.hid (Below.refl w.heap.size w); clear hA
  unfold maxLen at hn
  by_cases h60 : 60 < n
  · have d0 : decide ((60 : Int) < (n : Int)) = true := by simp; omega
    go_enter Try.func7, Try.ntmps7
    go_wp2_with fail
    refine (works_any _).mono ?_; rintro e w1 ⟨rfl, hb1⟩
    have B1 := Lib.hid (below_step B0.out hb1); clear hb1 B0 R0
    go_wp2_with fail
    go_ret
    exact ⟨rfl, B1.out⟩
  have d0 : decide ((60 : Int) < (n : Int)) = false := by simp; omega
  have K1 := fun W (hW : Row 2 (sx s) W A n) => Between_any A n c (by omega) s lo hi W hW
  have K2 := fun W (hW : Row 2 (sx s) W A n) => Without_any A n c (by omega) s lo hi W hW
  have K3 := fun W (hW : Row 2 (sx s) W A n) => Sorted_any A n c (by omega) s W hW
  have hna := Ma.sel_length (fun i => Ma.inT lo hi (s i).t) n
  have hnb := Ma.sel_length (fun i => !Ma.inT lo hi (s i).t) n
  have hsp := Ma.sel_split (fun i => Ma.inT lo hi (s i).t) n
  have hba : ∀ j, j < (Ma.sel (fun i => Ma.inT lo hi (s i).t) n).length → Ma.inT lo hi (s ((Ma.sel (fun i => Ma.inT lo hi (s i).t) n).getD j 0)).t = true := fun j hj => (Ma.sel_mem hj).1
  have hbb : ∀ j, j < (Ma.sel (fun i => !Ma.inT lo hi (s i).t) n).length → Ma.inT lo hi (s ((Ma.sel (fun i => !Ma.inT lo hi (s i).t) n).getD j 0)).t = false := fun j hj => by have := (Ma.sel_mem hj).1; simpa using this
  have hno : ¬ lo ≤ hi → (Ma.sel (fun i => Ma.inT lo hi (s i).t) n).length = 0 := fun h => by
    rw [Ma.sel_nothing n (fun i _ => ?_)]; · rfl
    unfold Ma.inT
    by_cases h1 : lo ≤ (s i).t
    · rw [decide_eq_false (show ¬ (s i).t ≤ hi by omega), Bool.and_false]
    · rw [decide_eq_false h1, Bool.false_and]
  have hra : Ma.rising s n = true → Ma.rising (fun j => s ((Ma.sel (fun i => Ma.inT lo hi (s i).t) n).getD j 0)) (Ma.sel (fun i => Ma.inT lo hi (s i).t) n).length = true := fun h => Ma.rising_sel h _
  have hrb : Ma.rising s n = true → Ma.rising (fun j => s ((Ma.sel (fun i => !Ma.inT lo hi (s i).t) n).getD j 0)) (Ma.sel (fun i => !Ma.inT lo hi (s i).t) n).length = true := fun h => Ma.rising_sel h _
  generalize Ma.sel (fun i => Ma.inT lo hi (s i).t) n = La at *
  generalize Ma.sel (fun i => !Ma.inT lo hi (s i).t) n = Lb at *
  have KA := fun (W : World) A1 c1 (hW : Row 2 (sx (fun j => s (La.getD j 0))) W A1 La.length) => Between_any A1 La.length c1 (by omega) _ lo hi W hW
  have KB := fun (W : World) A1 c1 (hW : Row 2 (sx (fun j => s (Lb.getD j 0))) W A1 Lb.length) => Between_any A1 Lb.length c1 (by omega) _ lo hi W hW
  have KS := fun (W : World) A1 A2 c1 c2 (h1 : Row 2 (sx (fun j => s (La.getD j 0))) W A1 La.length) (h2 : Row 2 (sx (fun j => s (La.getD j 0))) W A2 La.length) => rSamS_any A1 A2 La.length c1 c2 (by omega) _ W h1 h2
  have KRA := fun (W : World) A1 c1 (hW : Row 2 (sx (fun j => s (La.getD j 0))) W A1 La.length) => Sorted_any A1 La.length c1 (by omega) _ W hW
  have KRB := fun (W : World) A1 c1 (hW : Row 2 (sx (fun j => s (Lb.getD j 0))) W A1 Lb.length) => Sorted_any A1 Lb.length c1 (by omega) _ W hW
  have ha2 : Ma.sel (fun j => Ma.inT lo hi (s (La.getD j 0)).t) La.length = List.range La.length := Ma.sel_all _ (fun i hi2 => hba i hi2)
  have hb2 : Ma.sel (fun j => Ma.inT lo hi (s (Lb.getD j 0)).t) Lb.length = [] := Ma.sel_nothing _ (fun i hi2 => hbb i hi2)
  rw [ha2] at KA
  rw [hb2] at KB
  clear hba hbb ha2 hb2
  have C1 := Lib.hid K1; have C2 := Lib.hid K2; have C3 := Lib.hid K3; have CA := Lib.hid KA; have CB := Lib.hid KB; have CS := Lib.hid KS; have CRA := Lib.hid KRA; have CRB := Lib.hid KRB
  have HNO := Lib.hid hno; have HRA := Lib.hid hra; have HRB := Lib.hid hrb
  clear K1 K2 K3 KA KB KS KRA KRB hno hra hrb h60
  go_enter Try.func7, Try.ntmps7
  go_wp2_with fail
  refine (works_any _).mono ?_; rintro e w1 ⟨rfl, hb1⟩
  have B1 := Lib.hid (below_step B0.out hb1); have R1 := Lib.hid (R0.out.later hb1); clear hb1 B0 R0
  go_wp2_with fail
  refine (C1.out _ R1.out).mono ?_; rintro e w2 ⟨v2, rfl, ho2, hb2⟩
  obtain ⟨A2, c2, rfl, hr2⟩ := own_sams ho2
  have B2 := Lib.hid (below_step B1.out hb2); have R2 := Lib.hid (R1.out.later hb2); have P2 := Lib.hid hr2; clear hb2 ho2 hr2 B1 R1
  go_wp2_with fail
  refine (C2.out _ R2.out).mono ?_; rintro e w3 ⟨v3, rfl, ho3, hb3⟩
  obtain ⟨A3, c3, rfl, hr3⟩ := own_sams ho3
  have B3 := Lib.hid (below_step B2.out hb3); have R3 := Lib.hid (R2.out.later hb3); have P3 := Lib.hid (P2.out.later hb3); have Q3 := Lib.hid hr3; clear hb3 ho3 hr3 B2 R2 P2
  have s1 : wrap64 ((La.length : Int) + (Lb.length : Int)) = (n : Int) := by rw [IntWalk.wrap64_in _ (by omega)]; omega
  have s2 : ((n : Int) == (n : Int)) = true := by simp
  go_wp2_with fail
  refine (CA.out _ _ _ P3.out).mono ?_; rintro e w4 ⟨v4, rfl, ho4, hb4⟩
  obtain ⟨A4, c4, rfl, hr4⟩ := own_sams ho4
  rw [List.length_range] at hr4 ⊢
  have hr4b := hr4.eqOn (s2 := fun j => s (La.getD j 0)) (fun i hi2 => by rw [Ma.getD_range hi2])
  have B4 := Lib.hid (below_step B3.out hb4); have R4 := Lib.hid (R3.out.later hb4); have P4 := Lib.hid (P3.out.later hb4); have Q4 := Lib.hid (Q3.out.later hb4); have T4 := Lib.hid hr4b; clear hb4 ho4 hr4 hr4b B3 R3 P3 Q3
  go_wp2_with fail
  refine (CS.out _ _ _ _ _ T4.out P4.out).mono ?_; rintro e w5 ⟨rfl, hb5⟩
  have B5 := Lib.hid (below_step B4.out hb5); have R5 := Lib.hid (R4.out.later hb5); have P5 := Lib.hid (P4.out.later hb5); have Q5 := Lib.hid (Q4.out.later hb5); clear hb5 B4 R4 P4 Q4 T4
  go_wp2_with fail
  refine (CB.out _ _ _ Q5.out).mono ?_; rintro e w6 ⟨v6, rfl, ho6, hb6⟩
  obtain ⟨A6, c6, rfl⟩ := own_formk ho6
  have B6 := Lib.hid (below_step B5.out hb6); have R6 := Lib.hid (R5.out.later hb6); have P6 := Lib.hid (P5.out.later hb6); have Q6 := Lib.hid (Q5.out.later hb6); clear hb6 ho6 B5 R5 P5 Q5
  rw [List.length_nil]
  have rest : ∀ r, Ma.rising s n = r → (∀ W, Row 2 (sx s) W A n → Calls Try.prog 26 #[.slice A n c] W fun e w' => e = .returned (.bool r) ∧ DrewOf W w') := fun r hr W hW => by have := C3.out W hW; rw [hr] at this; exact this
  have CREST := Lib.hid rest; clear rest
  by_cases hlh : lo ≤ hi
  · have d1 : decide (lo ≤ hi) = true := decide_eq_true hlh
    clear hlh
    go_wp2_with fail
    cases hrs : Ma.rising s n
    · refine (CREST.out false hrs _ R6.out).mono ?_; rintro e w7 ⟨rfl, hd7⟩
      have B7 := Lib.hid (B6.out.grown (hd7.grown none) B6.out.size (fun r e => by cases e)); clear hd7
      go_wp2_with fail
      go_ret
      exact ⟨rfl, B7.out⟩
    · refine (CREST.out true hrs _ R6.out).mono ?_; rintro e w7 ⟨rfl, hd7⟩
      have hb7 : Below w6.heap.size w6 w7 := (Below.refl _ _).grown (hd7.grown none) (Nat.le_refl _) (fun r e => by cases e)
      have B7 := Lib.hid (below_step B6.out hb7); have P7 := Lib.hid (P6.out.later hb7); have Q7 := Lib.hid (Q6.out.later hb7)
      have hca := CRA.out _ A2 c2 P7.out
      rw [HRA.out hrs] at hca
      have hcb := fun W A1 c1 (hW : Row 2 (sx (fun j => s (Lb.getD j 0))) W A1 Lb.length) => CRB.out W A1 c1 hW
      rw [HRB.out hrs] at hcb
      have HCA := Lib.hid hca; have HCB := Lib.hid hcb
      clear hd7 hb7 B6 P6 Q6 R6 hca hcb hrs
      go_wp2_with fail
      refine HCA.out.mono ?_; rintro e w8 ⟨rfl, hd8⟩
      have hb8 : Below w7.heap.size w7 w8 := (Below.refl _ _).grown (hd8.grown none) (Nat.le_refl _) (fun r e => by cases e)
      have B8 := Lib.hid (below_step B7.out hb8); have Q8 := Lib.hid (Q7.out.later hb8)
      clear hd8 hb8 B7 Q7 P7
      go_wp2_with fail
      refine (HCB.out _ _ _ Q8.out).mono ?_; rintro e w9 ⟨rfl, hd9⟩
      have B9 := Lib.hid (B8.out.grown (hd9.grown none) B8.out.size (fun r e => by cases e)); clear hd9
      go_wp2_with fail
      go_ret
      exact ⟨rfl, B9.out⟩
  · have d1 : decide (lo ≤ hi) = false := decide_eq_false hlh
    have d2 : La.length = 0 := HNO.out (by omega)
    have d3 : ((La.length : Int) == 0) = true := by simp [d2]
    have D2 := Lib.hid d2
    clear hlh d2
    go_wp2_with fail
    cases hrs : Ma.rising s n
    · refine (CREST.out false hrs _ R6.out).mono ?_; rintro e w7 ⟨rfl, hd7⟩
      have B7 := Lib.hid (B6.out.grown (hd7.grown none) B6.out.size (fun r e => by cases e)); clear hd7
      go_wp2_with fail
      go_ret
      exact ⟨rfl, B7.out⟩
    · refine (CREST.out true hrs _ R6.out).mono ?_; rintro e w7 ⟨rfl, hd7⟩
      have hb7 : Below w6.heap.size w6 w7 := (Below.refl _ _).grown (hd7.grown none) (Nat.le_refl _) (fun r e => by cases e)
      have B7 := Lib.hid (below_step B6.out hb7); have P7 := Lib.hid (P6.out.later hb7); have Q7 := Lib.hid (Q6.out.later hb7)
      have hca := CRA.out _ A2 c2 P7.out
      rw [HRA.out hrs] at hca
      have hcb := fun W A1 c1 (hW : Row 2 (sx (fun j => s (Lb.getD j 0))) W A1 Lb.length) => CRB.out W A1 c1 hW
      rw [HRB.out hrs] at hcb
      have HCA := Lib.hid hca; have HCB := Lib.hid hcb
      clear hd7 hb7 B6 P6 Q6 R6 hca hcb hrs
      go_wp2_with fail
      refine HCA.out.mono ?_; rintro e w8 ⟨rfl, hd8⟩
      have hb8 : Below w7.heap.size w7 w8 := (Below.refl _ _).grown (hd8.grown none) (Nat.le_refl _) (fun r e => by cases e)
      have B8 := Lib.hid (below_step B7.out hb8); have Q8 := Lib.hid (Q7.out.later hb8)
      clear hd8 hb8 B7 Q7 P7
      go_wp2_with fail
      refine (HCB.out _ _ _ Q8.out).mono ?_; rintro e w9 ⟨rfl, hd9⟩
      have B9 := Lib.hid (B8.out.grown (hd9.grown none) B8.out.size (fun r e => by cases e)); clear hd9
      go_wp2_with fail
      go_ret
      exact ⟨rfl, B9.out⟩
theorem matchParts_walk {H : Type} {enc : TypeId × Value → H} {r : Reach} {b0 : Nat} {v : Value} {d : DataW H} {p : List MemPlace} (w : World)
    (hv : Value.okWide Try.prog w r b0 38 v) (h : DataW.Trod enc Try.prog w 0 (fun _ => true) true 38 v d p) (lo : Int) (_hl : (Lit.int .i64 lo).wf = true) (hi : Int) (_hh : (Lit.int .i64 hi).wf = true) :
    Calls Try.prog 7 #[v, .int .i64 lo, .int .i64 hi] w fun e w' => e = .returned (.bool true) ∧ Below w.heap.size w w' := by
  obtain ⟨A, n, c, s, rfl, hn, hA⟩ := open_sams hv h
  exact matchParts_walk0 w A n c s hn hA lo hi
end Go.Proofs.Ytcdlkiephdghlaa
