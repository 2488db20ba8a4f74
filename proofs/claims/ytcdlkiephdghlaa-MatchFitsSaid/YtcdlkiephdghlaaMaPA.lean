/-
  What the references Right and AllRight come to.
-/
import Derived.Test.YtcdlkiephdghlaaMaNo
import Derived.Test.YtcdlkiephdghlaaLgB
namespace Go.Proofs.Ytcdlkiephdghlaa
open Go.RowKit
set_option maxRecDepth 100000 in
set_option maxHeartbeats 1000000 in
theorem rRight_any (m : Mat) (hn : m.n.size ≤ maxLen) (hv : m.v.size ≤ maxLen) (w : World) :
    Calls Try.prog 29 #[m.val] w fun e w' => e = .returned (.bool (Ma.right m)) ∧ Below w.heap.size w w' := by
  obtain ⟨mk, mn, mv⟩ := m
  simp only at hn hv
  unfold Mat.val
  have hr : Ma.right ⟨mk, mn, mv⟩ = (decide (0 ≤ mk ∧ mk ≤ 3) && La.okName mn && (decide (mv.size = 0) || (decide (mk ≠ 3) && La.okValue mv))) := rfl
  have CN := Lib.hid (fun W => rName_any mn hn W)
  have CV := Lib.hid (fun W => rValue_any mv hv W)
  have hal : Below w.heap.size w (w.alloc (.cells #[.int .i64 mk, .string mn, .string mv] 32)) := (Below.refl _ _).alloc (Nat.le_refl _) _
  have M1 : Hid (MatAt (w.alloc (.cells #[.int .i64 mk, .string mn, .string mv] 32)) w.heap.size mk mn mv) := Lib.hid (heap_alloc_new _ _)
  have B1 := Lib.hid hal
  clear hal hn hv
  by_cases h0 : mk < 0
  · have d0 : decide (mk < 0) = true := decide_eq_true h0
    have HR : Hid (Ma.right ⟨mk, mn, mv⟩ = false) := Lib.hid (by rw [hr, decide_eq_false (by omega)]; rfl)
    clear hr
    go_enter Try.func29, Try.ntmps29
    go_wp2_with fail
    go_ret
    exact ⟨by rw [HR.out]; rfl, B1.out⟩
  have d0 : decide (mk < 0) = false := decide_eq_false h0
  by_cases h3 : 3 < mk
  · have d1 : decide (3 < mk) = true := decide_eq_true h3
    have HR : Hid (Ma.right ⟨mk, mn, mv⟩ = false) := Lib.hid (by rw [hr, decide_eq_false (by omega)]; rfl)
    clear hr
    go_enter Try.func29, Try.ntmps29
    go_wp2_with fail
    go_ret
    exact ⟨by rw [HR.out]; rfl, B1.out⟩
  have d1 : decide (3 < mk) = false := decide_eq_false h3
  rw [decide_eq_true (show 0 ≤ mk ∧ mk ≤ 3 by omega), Bool.true_and] at hr
  have hem := La.isEmpty_eq mv
  obtain ⟨x0, x1, x2⟩ := M1.out.cells
  cases hnm : La.okName mn
  · rw [hnm] at CN
    rw [hnm, Bool.false_and] at hr
    have HR := Lib.hid hr
    clear hr hnm hem CV
    go_enter Try.func29, Try.ntmps29
    go_wp2_with fail
    refine (CN.out _).mono ?_; rintro e w2 ⟨rfl, hb2⟩
    have B2 := Lib.hid (below_step B1.out hb2); clear hb2
    go_wp2_with fail
    go_ret
    exact ⟨by rw [HR.out]; rfl, B2.out⟩
  rw [hnm] at CN
  rw [hnm, Bool.true_and] at hr
  clear hnm
  by_cases hz : mv.size = 0
  · rw [decide_eq_true hz, Bool.true_or] at hr
    have he : mv.toList.isEmpty = true := by rw [hem]; simpa using hz
    have HR := Lib.hid hr
    clear hr hem CV hz
    go_enter Try.func29, Try.ntmps29
    go_wp2_with fail
    refine (CN.out _).mono ?_; rintro e w2 ⟨rfl, hb2⟩
    have B2 := Lib.hid (below_step B1.out hb2); have M2 := Lib.hid (M1.out.later hb2); clear hb2 x0 x1 x2
    obtain ⟨x0, x1, x2⟩ := M2.out.cells
    go_wp2_with fail
    go_ret
    exact ⟨by rw [HR.out]; rfl, B2.out⟩
  rw [decide_eq_false hz, Bool.false_or] at hr
  have he : mv.toList.isEmpty = false := by rw [hem]; simpa using hz
  clear hem hz
  by_cases k3 : mk = 3
  · have d2 : decide (mk < 3) = false := decide_eq_false (by omega)
    rw [decide_eq_false (by omega), Bool.false_and] at hr
    have HR := Lib.hid hr
    clear hr CV k3
    go_enter Try.func29, Try.ntmps29
    go_wp2_with fail
    refine (CN.out _).mono ?_; rintro e w2 ⟨rfl, hb2⟩
    have B2 := Lib.hid (below_step B1.out hb2); have M2 := Lib.hid (M1.out.later hb2); clear hb2 x0 x1 x2
    obtain ⟨x0, x1, x2⟩ := M2.out.cells
    go_wp2_with fail
    go_ret
    exact ⟨by rw [HR.out]; rfl, B2.out⟩
  have d2 : decide (mk < 3) = true := decide_eq_true (by omega)
  rw [decide_eq_true k3, Bool.true_and] at hr
  have HR := Lib.hid hr
  clear hr k3
  go_enter Try.func29, Try.ntmps29
  go_wp2_with fail
  refine (CN.out _).mono ?_; rintro e w2 ⟨rfl, hb2⟩
  have B2 := Lib.hid (below_step B1.out hb2); have M2 := Lib.hid (M1.out.later hb2); clear hb2 x0 x1 x2
  obtain ⟨x0, x1, x2⟩ := M2.out.cells
  go_wp2_with fail
  refine (CV.out _).mono ?_; rintro e w3 ⟨rfl, hb3⟩
  have B3 := Lib.hid (below_step B2.out hb3); clear hb3 x0 x1 x2
  go_wp2_with fail
  go_ret
  exact ⟨by rw [HR.out]; rfl, B3.out⟩
set_option maxRecDepth 100000 in
set_option maxHeartbeats 1000000 in
theorem rAllRight_any (A : Option Addr) (n c : Nat) (hn : n ≤ 1000000) (m : Nat → Mat) (hs : ∀ i, i < n → (m i).n.size ≤ maxLen ∧ (m i).v.size ≤ maxLen) (w : World) (hA : Row 3 (mx m) w A n) :
    Calls Try.prog 12 #[.slice A n c] w fun e w' => e = .returned (.bool (Ma.allRight m n)) ∧ Below w.heap.size w w' := by
  have HA := Lib.hid hA; have HSZ := Lib.hid hs; clear hA hs
  go_enter Try.func12, Try.ntmps12
  go_wp2_with fail
  go_loopw [3] (fun i wr => ∃ k : Nat, k ≤ n ∧ i = .int .i64 k ∧ (∀ j, j < k → Ma.right (m j) = true) ∧ Below w.heap.size w wr) (fun i _ => n - (intOf i).toNat)
  case atStart => exact ⟨0, Nat.zero_le _, rfl, (fun j hj => absurd hj (by omega)), Below.refl _ _⟩
  case round =>
    obtain ⟨k, hk, rfl, hall, hb⟩ := hrel
    have HE := Lib.hid hall; have HB := Lib.hid hb; clear hall hb
    by_cases hlt : k < n
    · obtain ⟨ad, rfl, c0, c1⟩ := HA.out.at_ HB.out hlt
      have e0 : wr.cell? (ad.add (k * 3)) = some (.int .i64 (m k).k) := c0 (by omega)
      have e1 : wr.cell? ⟨(ad.add (k * 3)).block, (ad.add (k * 3)).off + 1, none⟩ = some (.string (m k).n) := c1 1 (by omega) (by omega)
      have e2 : wr.cell? ⟨(ad.add (k * 3)).block, (ad.add (k * 3)).off + 2, none⟩ = some (.string (m k).v) := c1 2 (by omega) (by omega)
      have hsz := HSZ.out k hlt
      have hva := fun W => rRight_any (m k) hsz.1 hsz.2 W
      rw [show (m k).val = .agg #[.int .i64 (m k).k, .string (m k).n, .string (m k).v] from rfl] at hva
      have i1 : (k : Int) < (n : Int) := by omega
      have i0 : (0 : Int) ≤ (k : Int) := by omega
      clear c0 c1 hsz
      cases hr : Ma.right (m k)
      · rw [hr] at hva
        have HR : Hid (Ma.allRight m n = false) := Lib.hid (Ma.allRight_no hlt hr)
        have HV := Lib.hid hva
        clear hva hr
        generalize (m k).k = xk at *
        generalize (m k).n = xn at *
        generalize (m k).v = xv at *
        go_wp2_with fail
        refine (HV.out _).mono ?_; rintro e w3 ⟨rfl, hb3⟩
        have HB3 := Lib.hid (below_step HB.out hb3); clear hb3
        go_wp2_with fail
        go_ret
        exact ⟨by rw [HR.out]; rfl, HB3.out⟩
      · rw [hr] at hva
        have HR := Lib.hid hr
        have HV := Lib.hid hva
        clear hva hr
        generalize hxk : (m k).k = xk at *
        generalize hxn : (m k).n = xn at *
        generalize hxv : (m k).v = xv at *
        clear hxk hxn hxv
        go_wp2_with fail
        refine (HV.out _).mono ?_; rintro e w3 ⟨rfl, hb3⟩
        have HB3 := Lib.hid (below_step HB.out hb3); clear hb3
        go_wp2_with fail
        go_roundw
        case rel => exact ⟨k + 1, by omega, by go_num, fun j hj => (by
          rcases Nat.lt_or_ge j k with h1 | h1
          · exact HE.out j h1
          · obtain rfl : j = k := by omega
            exact HR.out), HB3.out⟩
        case measure => simp [intOf]; omega
    · obtain rfl : k = n := by omega
      have i1 : ¬ (k : Int) < (k : Int) := by omega
      by_cases h8 : k ≤ 8
      · have HR : Hid (Ma.allRight m k = true) := Lib.hid (Ma.allRight_yes h8 HE.out)
        have d0 : decide ((k : Int) ≤ 8) = true := by simp; omega
        go_wp2_with fail
        go_ret
        exact ⟨by rw [HR.out]; rfl, HB.out⟩
      · have HR : Hid (Ma.allRight m k = false) := Lib.hid (by unfold Ma.allRight; rw [decide_eq_false (by omega)]; rfl)
        have d0 : decide ((k : Int) ≤ 8) = false := by simp; omega
        go_wp2_with fail
        go_ret
        exact ⟨by rw [HR.out]; rfl, HB.out⟩
end Go.Proofs.Ytcdlkiephdghlaa
