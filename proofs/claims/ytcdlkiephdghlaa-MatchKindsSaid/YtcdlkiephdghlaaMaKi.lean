/-
  MatchKinds: the walk of the law.
-/
import Derived.Test.YtcdlkiephdghlaaMaW
namespace Go.Proofs.Ytcdlkiephdghlaa
open Go.RowKit
namespace Ma
theorem begins_self (v : ByteArray) : begins v v = true := by
  unfold begins
  have : v.extract 0 v.size = v := by simp
  simp [this]
theorem begins_take {v p : ByteArray} (k : Nat) (hk : k ≤ p.size) (h : begins v p = true) : begins v (p.extract 0 k) = true := by
  unfold begins at h ⊢
  rw [Bool.and_eq_true, decide_eq_true_eq, decide_eq_true_eq] at h ⊢
  have hz : (p.extract 0 k).size = k := by rw [ByteArray.size_extract]; omega
  refine ⟨by rw [hz]; omega, ?_⟩
  rw [hz]
  conv => rhs; rw [← h.2]
  rw [ByteArray.extract_extract]
  congr 1
  omega
theorem get_none (g : Nat → Lab) (name : ByteArray) : ∀ m i, (∀ j, i ≤ j → j < i + m → (g j).1 ≠ name) → La.get g name m i = ByteArray.empty
  | 0, _, _ => rfl
  | m + 1, i, h => by
    rw [La.get, if_neg (h i (Nat.le_refl _) (by omega))]
    exact get_none g name m (i + 1) (fun j h1 h2 => h j (by omega) (by omega))
theorem there_of {f : Nat → Lab} {n : Nat} {name p : ByteArray} (h : begins (La.get f name n 0) p = true) (hp : p.size ≠ 0) : decide (0 < (sel (fun i => decide ((f i).1 = name)) n).length) = true := by
  rw [decide_eq_true_eq]
  refine Nat.pos_of_ne_zero fun h0 => ?_
  have hnil := List.eq_nil_of_length_eq_zero h0
  have hall : ∀ j, 0 ≤ j → j < 0 + n → (f j).1 ≠ name := fun j _ hj e => by
    have : j ∈ sel (fun i => decide ((f i).1 = name)) n := by
      unfold sel; rw [List.mem_filter]; exact ⟨List.mem_range.2 (by omega), by simpa using e⟩
    rw [hnil] at this; cases this
  rw [get_none f name n 0 hall] at h
  unfold begins at h
  rw [Bool.and_eq_true, decide_eq_true_eq] at h
  have := h.1
  have e0 : (ByteArray.empty).size = 0 := rfl
  omega
theorem kinds (f : Nat → Lab) (n : Nat) (name value : ByteArray) (k : Nat) (hk : k ≤ value.size) :
    (fits ⟨0, name, value⟩ f n = true → fits ⟨2, name, value⟩ f n = true) ∧ (fits ⟨2, name, value⟩ f n = true → fits ⟨2, name, value.extract 0 k⟩ f n = true) ∧ (fits ⟨2, name, value⟩ f n = true → value.size ≠ 0 → fits ⟨3, name, ByteArray.empty⟩ f n = true) := by
  have e0 : fits ⟨0, name, value⟩ f n = decide (La.get f name n 0 = value) := rfl
  have e2 : ∀ p, fits ⟨2, name, p⟩ f n = begins (La.get f name n 0) p := fun p => rfl
  have e3 : fits ⟨3, name, ByteArray.empty⟩ f n = decide (0 < (sel (fun i => decide ((f i).1 = name)) n).length) := rfl
  rw [e0, e2, e2, e3]
  refine ⟨fun h => ?_, begins_take k hk, there_of⟩
  rw [decide_eq_true_eq] at h
  rw [h]; exact begins_self value
end Ma

set_option maxRecDepth 100000 in
set_option maxHeartbeats 2000000 in
theorem matchKinds_walk (w : World) (name : ByteArray) (_hn : name.size ≤ maxLen) (value : ByteArray) (_hv : value.size ≤ maxLen) (a : Int) (ha : (Lit.int .u8 a).wf = true) (A : Option Addr) (n c : Nat) (f : Nat → Lab) (hn : n ≤ maxLen) (_hz : ∀ i, i < n → (f i).1.size ≤ maxLen ∧ (f i).2.size ≤ maxLen) (hl : LabRow w A n f) (_hx : A = none → n = 0 ∧ c = 0) (_hq : n ≤ c) :
    Calls Try.prog 8 #[.string name, .string value, .int .u8 a, .slice A n c] w fun e w' => e = .returned (.bool true) ∧ Below w.heap.size w w' := by
  have L0 := Lib.hid hl; have B0 := Lib.hid (Below.refl w.heap.size w); clear hl
  have hfew := fun W (hW : LabRow W A n f) => Few_any A n c hn f W hW
  cases hf : La.few f n
  · rw [hf] at hfew
    have HF := Lib.hid hfew; clear hfew hf
    go_enter Try.func8, Try.ntmps8
    go_wp2_with fail
    refine (works_any _).mono ?_; rintro e w1 ⟨rfl, hb1⟩
    have B1 := Lib.hid (below_step B0.out hb1); have L1 := Lib.hid (L0.out.later hb1); clear hb1 B0 L0
    go_wp2_with fail
    refine (HF.out _ L1.out).mono ?_; rintro e w2 ⟨rfl, hb2⟩
    have B2 := Lib.hid (below_step B1.out hb2); clear hb2 B1 L1
    go_wp2_with fail
    go_ret
    exact ⟨rfl, B2.out⟩
  rw [hf] at hfew
  have hn10 := (La.few_yes hf).1
  have HF := Lib.hid hfew; clear hfew hf
  by_cases h1 : 300 < name.size
  · have d1 : decide ((300 : Int) < (name.size : Int)) = true := by simp; omega
    go_enter Try.func8, Try.ntmps8
    go_wp2_with fail
    refine (works_any _).mono ?_; rintro e w1 ⟨rfl, hb1⟩
    have B1 := Lib.hid (below_step B0.out hb1); have L1 := Lib.hid (L0.out.later hb1); clear hb1 B0 L0
    go_wp2_with fail
    refine (HF.out _ L1.out).mono ?_; rintro e w2 ⟨rfl, hb2⟩
    have B2 := Lib.hid (below_step B1.out hb2); clear hb2 B1 L1
    go_wp2_with fail
    go_ret
    exact ⟨rfl, B2.out⟩
  have d1 : decide ((300 : Int) < (name.size : Int)) = false := by simp; omega
  by_cases h2 : 300 < value.size
  · have d2 : decide ((300 : Int) < (value.size : Int)) = true := by simp; omega
    go_enter Try.func8, Try.ntmps8
    go_wp2_with fail
    refine (works_any _).mono ?_; rintro e w1 ⟨rfl, hb1⟩
    have B1 := Lib.hid (below_step B0.out hb1); have L1 := Lib.hid (L0.out.later hb1); clear hb1 B0 L0
    go_wp2_with fail
    refine (HF.out _ L1.out).mono ?_; rintro e w2 ⟨rfl, hb2⟩
    have B2 := Lib.hid (below_step B1.out hb2); clear hb2 B1 L1
    go_wp2_with fail
    go_ret
    exact ⟨rfl, B2.out⟩
  have d2 : decide ((300 : Int) < (value.size : Int)) = false := by simp; omega
  obtain ⟨x, rfl, hx⟩ : ∃ x : Nat, a = (x : Int) ∧ x < 256 := by
    simp [Lit.wf, IntKind.min, IntKind.max, IntKind.signed, IntKind.bits] at ha
    exact ⟨a.toNat, by omega, by omega⟩
  obtain ⟨k, hk⟩ : ∃ k, x % (value.size + 1) = k := ⟨_, rfl⟩
  have hkl : k ≤ value.size := by have := Nat.mod_lt x (show 0 < value.size + 1 by omega); omega
  have t0 : IntKind.i64.wrap (x : Int) = (x : Int) := IntWalk.i64_in _ (by omega)
  have t1 : wrap64 ((value.size : Int) + 1) = (value.size : Int) + 1 := IntWalk.wrap64_in _ (by omega)
  have t2 : ((x : Int)).tmod ((value.size : Int) + 1) = (k : Int) := by
    rw [Int.tmod_eq_emod_of_nonneg (by omega), ← hk]; rfl
  have t3 : ((value.size : Int) + 1 == 0) = false := by rw [beq_eq_false_iff_ne]; omega
  have t4 : ¬ ((value.size : Int) + 1 = 0) := by omega
  have t5 : (x : Int) % ((value.size : Int) + 1) = (k : Int) := by rw [← hk]; rfl
  have i1 : (k : Int) ≤ (value.size : Int) := by omega
  have i0 : (0 : Int) ≤ (k : Int) := by omega
  obtain ⟨m1, m2, m3⟩ := Ma.kinds f n name value k hkl
  have hem := La.isEmpty_eq value
  have K1 := fun W (hW : LabRow W A n f) => Fits_any ⟨0, name, value⟩ A n c (by omega) f W hW
  have K2 := fun W (hW : LabRow W A n f) => Fits_any ⟨2, name, value⟩ A n c (by omega) f W hW
  have K3 := fun W (hW : LabRow W A n f) => Fits_any ⟨2, name, value.extract 0 k⟩ A n c (by omega) f W hW
  have K4 := fun W (hW : LabRow W A n f) => Fits_any ⟨3, name, ByteArray.empty⟩ A n c (by omega) f W hW
  simp only [Mat.val] at K1 K2 K3 K4
  generalize Ma.fits ⟨0, name, value⟩ f n = r1 at *
  generalize Ma.fits ⟨2, name, value⟩ f n = r2 at *
  generalize Ma.fits ⟨2, name, value.extract 0 k⟩ f n = r3 at *
  generalize Ma.fits ⟨3, name, ByteArray.empty⟩ f n = r4 at *
  have C1 := Lib.hid K1; have C2 := Lib.hid K2; have C3 := Lib.hid K3; have C4 := Lib.hid K4
  have M1 := Lib.hid m1; have M2 := Lib.hid m2; have M3 := Lib.hid m3; have HEM := Lib.hid hem
  clear K1 K2 K3 K4 m1 m2 m3 hem hk ha h1 h2
  go_enter Try.func8, Try.ntmps8
  go_wp2_with fail
  refine (works_any _).mono ?_; rintro e w1 ⟨rfl, hb1⟩
  have B1 := Lib.hid (below_step B0.out hb1); have L1 := Lib.hid (L0.out.later hb1); clear hb1 B0 L0
  go_wp2_with fail
  refine (HF.out _ L1.out).mono ?_; rintro e w2 ⟨rfl, hb2⟩
  have B2 := Lib.hid (below_step B1.out hb2); have L2 := Lib.hid (L1.out.later hb2); clear hb2 B1 L1
  go_wp2_with fail
  refine (C1.out _ L2.out).mono ?_; rintro e w3 ⟨rfl, hb3⟩
  have B3 := Lib.hid (below_step B2.out hb3); have L3 := Lib.hid (L2.out.later hb3); clear hb3 B2 L2
  go_wp2_with fail
  refine (C2.out _ L3.out).mono ?_; rintro e w4 ⟨rfl, hb4⟩
  have B4 := Lib.hid (below_step B3.out hb4); have L4 := Lib.hid (L3.out.later hb4); clear hb4 B3 L3
  go_wp2_with fail
  refine (C3.out _ L4.out).mono ?_; rintro e w5 ⟨rfl, hb5⟩
  have B5 := Lib.hid (below_step B4.out hb5); have L5 := Lib.hid (L4.out.later hb5); clear hb5 B4 L4
  go_wp2_with fail
  refine (C4.out _ L5.out).mono ?_; rintro e w6 ⟨rfl, hb6⟩
  have B6 := Lib.hid (below_step B5.out hb6); clear hb6 B5 L5
  cases r2
  · have hr1 : r1 = false := by cases h : r1 <;> first | rfl | exact absurd (M1.out h) (by decide)
    subst hr1
    go_wp2_with fail
    go_ret
    exact ⟨rfl, B6.out⟩
  · have hr3 : r3 = true := M2.out rfl
    subst hr3
    by_cases hz : value.size = 0
    · have he : value.toList.isEmpty = true := by rw [HEM.out]; simpa using hz
      clear hz
      cases r1 <;>
      · go_wp2_with fail
        go_ret
        exact ⟨rfl, B6.out⟩
    · have he : value.toList.isEmpty = false := by rw [HEM.out]; simpa using hz
      have hr4 : r4 = true := M3.out rfl hz
      subst hr4
      clear hz
      cases r1 <;>
      · go_wp2_with fail
        go_ret
        exact ⟨rfl, B6.out⟩
end Go.Proofs.Ytcdlkiephdghlaa
