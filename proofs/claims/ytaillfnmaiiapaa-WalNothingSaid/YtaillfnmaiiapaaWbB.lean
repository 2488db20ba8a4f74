/-
  The laws' limits on keys; texts alike.
-/
import Derived.Test.YtaillfnmaiiapaaWbA
import Derived.Test.YtaillfnmaiiapaaWaN
import Derived.BigQuiet
namespace Go.Proofs.Ytaillfnmaiiapaa
open Go.RowKit
theorem below_drewN {B : Nat} {a w : World} (h : Below B a w) (n : Nat) : Below B a (w.drewN n) := h.trans ⟨rfl, rfl, rfl, Nat.le_refl _, fun _ _ => rfl⟩
def fewK (K : List ByteArray) : Bool := decide (K.length ≤ 30) && (List.range K.length).all (fun i => decide ((K.getD i ByteArray.empty).size ≤ 700))
theorem fewK_no {K : List ByteArray} {k : Nat} (hk : k < K.length) (h : ¬ (K.getD k ByteArray.empty).size ≤ 700) : fewK K = false := by
  unfold fewK
  have : (List.range K.length).all (fun i => decide ((K.getD i ByteArray.empty).size ≤ 700)) = false := by
    rw [List.all_eq_false]
    exact ⟨k, List.mem_range.2 hk, by simpa using h⟩
  rw [this, Bool.and_false]
theorem fewK_many {K : List ByteArray} (h : 30 < K.length) : fewK K = false := by
  unfold fewK
  rw [decide_eq_false (by omega), Bool.false_and]
theorem fewK_all {K : List ByteArray} (hn : K.length ≤ 30) (h : ∀ i, i < K.length → (K.getD i ByteArray.empty).size ≤ 700) : fewK K = true := by
  unfold fewK
  rw [decide_eq_true hn, Bool.true_and, List.all_eq_true]
  intro i hi
  exact decide_eq_true (h i (List.mem_range.1 hi))
theorem fewK_yes {K : List ByteArray} (h : fewK K = true) : K.length ≤ 30 ∧ ∀ k ∈ K, k.size ≤ 700 := by
  unfold fewK at h
  simp only [Bool.and_eq_true, decide_eq_true_eq] at h
  refine ⟨h.1, fun k hk => ?_⟩
  obtain ⟨i, hi, rfl⟩ := List.getElem_of_mem hk
  have h2 := List.all_eq_true.1 h.2 i (List.mem_range.2 hi)
  simpa [List.getD, hi] using h2
set_option maxRecDepth 100000 in
set_option maxHeartbeats 1000000 in
theorem fewKeys_any (A : Option Addr) (K : List ByteArray) (c : Nat) (hn : K.length ≤ maxLen) (w : World) (hA : Row 1 (kx K) w A K.length) :
    Calls Try.prog 15 #[.slice A K.length c] w fun e w' => e = .returned (.bool (fewK K)) ∧ Below w.heap.size w w' := by
  unfold maxLen at hn
  obtain ⟨n, hne⟩ : ∃ n, n = K.length := ⟨_, rfl⟩
  have HNO := Lib.hid (fun k => fewK_no (K := K) (k := k)); have HMA := Lib.hid (fewK_many (K := K)); have HAL := Lib.hid (fewK_all (K := K))
  rw [← hne] at hA hn HNO HMA HAL ⊢
  clear hne
  have HA := Lib.hid hA; clear hA
  generalize fewK K = R at *
  go_enter Try.func15, Try.ntmps15
  go_wp2_with fail
  go_loopw [3] (fun i wr => ∃ k : Nat, k ≤ n ∧ k ≤ 31 ∧ i = .int .i64 k ∧ (∀ j, j < k → (K.getD j ByteArray.empty).size ≤ 700) ∧ Below w.heap.size w wr) (fun i _ => n - (intOf i).toNat)
  case atStart => exact ⟨0, Nat.zero_le _, by omega, rfl, (fun j hj => absurd hj (by omega)), Below.refl _ _⟩
  case round =>
    obtain ⟨k, hk, hk11, rfl, hall, hb⟩ := hrel
    by_cases hgo : k < n ∧ k ≤ 30
    · obtain ⟨h1, h2⟩ := hgo
      obtain ⟨ad, rfl, c0, -⟩ := HA.out.at_ hb h1
      have c0 := c0 (by omega)
      rw [Nat.mul_one] at c0
      have e1 : kx K k 0 = .string (K.getD k ByteArray.empty) := rfl
      rw [e1] at c0
      clear e1
      have hnx : (K.getD k ByteArray.empty).size ≤ 700 → ∀ j, j < k + 1 → (K.getD j ByteArray.empty).size ≤ 700 := fun h j hj => by
        rcases Nat.lt_or_ge j k with h3 | h3
        · exact hall j h3
        · rw [show j = k from by omega]; exact h
      have HN1 := Lib.hid (HNO.out k h1); have HNX := Lib.hid hnx; have HB := Lib.hid hb; clear hnx hall hb
      generalize K.getD k ByteArray.empty = x at *
      have i0 : (0 : Int) ≤ (k : Int) := by omega
      have i1 : (k : Int) < (n : Int) := by omega
      have i2 : (k : Int) ≤ 30 := by omega
      have d1 : decide ((k : Int) < (n : Int)) = true := by simpa using h1
      have d2 : decide ((k : Int) ≤ 30) = true := by simpa using i2
      by_cases hx : x.size ≤ 700
      · have d3 : decide ((700 : Int) < (x.size : Int)) = false := by simp; omega
        go_wp2_with fail
        go_roundw
        case rel => exact ⟨k + 1, by omega, by omega, by go_num, HNX.out hx, HB.out⟩
        case measure => simp [intOf]; omega
      · have d3 : decide ((700 : Int) < (x.size : Int)) = true := by simp; omega
        go_wp2_with fail
        go_ret
        rw [HN1.out hx]
        exact ⟨rfl, HB.out⟩
    · by_cases hkn : k < n
      · have d1 : decide ((k : Int) < (n : Int)) = true := by simpa using hkn
        have d2 : decide ((k : Int) ≤ 30) = false := by simp; omega
        have d3 : decide ((n : Int) ≤ 30) = false := by simp; omega
        have HR := Lib.hid (HMA.out (by omega))
        go_wp2_with fail
        go_ret
        rw [HR.out]
        exact ⟨rfl, hb⟩
      · have e : k = n := by omega
        subst e
        have d1 : decide ((k : Int) < (k : Int)) = false := by simp
        by_cases h10 : k ≤ 30
        · have d3 : decide ((k : Int) ≤ 30) = true := by simp; omega
          have HR := Lib.hid (HAL.out h10 hall)
          go_wp2_with fail
          go_ret
          rw [HR.out]
          exact ⟨rfl, hb⟩
        · have HR := Lib.hid (HMA.out (by omega))
          have d3 : decide ((k : Int) ≤ 30) = false := by simp; omega
          go_wp2_with fail
          go_ret
          rw [HR.out]
          exact ⟨rfl, hb⟩
set_option maxRecDepth 100000 in
set_option maxHeartbeats 1000000 in
theorem Texts_any (A B : Option Addr) (cA cB : Nat) (l m : List ByteArray) (hl : l.length ≤ 1000) (hm : m.length ≤ 1000) (w : World) (hA : Row 1 (kx l) w A l.length) (hB : Row 1 (kx m) w B m.length) :
    Calls Try.prog 16 #[.slice A l.length cA, .slice B m.length cB] w fun e w' => e = .returned (.bool (decide (l = m))) ∧ Below w.heap.size w w' := by
  have HA := Lib.hid hA; have HB := Lib.hid hB; clear hA hB
  obtain ⟨n, hn⟩ : ∃ n, n = l.length := ⟨_, rfl⟩
  obtain ⟨n2, hn2⟩ : ∃ n, n = m.length := ⟨_, rfl⟩
  rw [← hn] at HA hl ⊢
  rw [← hn2] at HB hm ⊢
  have HN := Lib.hid hn; have HN2 := Lib.hid hn2
  clear hn hn2
  by_cases hne : n = n2
  · subst hne
    have d0 : (((n : Nat) : Int) != ((n : Nat) : Int)) = false := by simp
    have d0b : decide (((n : Nat) : Int) = ((n : Nat) : Int)) = true := by simp
    go_enter Try.func16, Try.ntmps16
    go_wp2_with fail
    go_loopw [4, 5] (fun _ i wr => ∃ k : Nat, k ≤ n ∧ i = .int .i64 k ∧ (∀ j, j < k → l.getD j ByteArray.empty = m.getD j ByteArray.empty) ∧ Below w.heap.size w wr) (fun _ i _ => n - (intOf i).toNat)
    case atStart => exact ⟨0, Nat.zero_le _, rfl, fun j hj => by omega, Below.refl _ _⟩
    case round =>
      obtain ⟨k, hk, rfl, hall, hb⟩ := hrel
      have HL := Lib.hid hall; have HBL := Lib.hid hb; clear hall hb
      by_cases hlt : k < n
      · obtain ⟨ad, rfl, x0, -⟩ := HA.out.at_ HBL.out hlt
        obtain ⟨ad2, rfl, y0, -⟩ := HB.out.at_ HBL.out hlt
        have x0 := x0 (by omega)
        have y0 := y0 (by omega)
        rw [Nat.mul_one] at x0 y0
        have i1 : (k : Int) < (n : Int) := by omega
        have i0 : (0 : Int) ≤ (k : Int) := by omega
        have d1 : decide ((k : Int) < (n : Int)) = true := decide_eq_true i1
        have e1 : kx l k 0 = .string (l.getD k ByteArray.empty) := rfl
        have e2 : kx m k 0 = .string (m.getD k ByteArray.empty) := rfl
        rw [e1] at x0
        rw [e2] at y0
        clear e1 e2
        
        have HLM : Hid (l.getD k ByteArray.empty ≠ m.getD k ByteArray.empty → l ≠ m) := Lib.hid (fun h e => h (by rw [e]))
        have HS1 : Hid (l.getD k ByteArray.empty = m.getD k ByteArray.empty → ∀ j, j < k + 1 → l.getD j ByteArray.empty = m.getD j ByteArray.empty) := Lib.hid (fun h j hj => by
          by_cases e : j = k
          · rw [e]; exact h
          · exact HL.out j (by omega))
        clear HL
        generalize hgx : l.getD k ByteArray.empty = gx at *
        generalize hgy : m.getD k ByteArray.empty = gy at *
        clear hgx hgy
        by_cases hxy : gx = gy
        · have HR := Lib.hid (HS1.out hxy)
          subst hxy
          clear HLM HS1
          have b0 : (gx.toList == gx.toList) = true := by simp
          go_wp2_with fail
          go_quiet (fail)
          go_wp2_with fail
          go_roundw
          case rel => exact ⟨k + 1, by omega, by go_num, HR.out, below_drewN HBL.out _⟩
          case measure => simp [intOf]; omega
        · have HR := Lib.hid (HLM.out hxy)
          clear HLM HS1
          have b0 : (gx.toList == gy.toList) = false := by rw [str_beq]; simpa using hxy
          go_wp2_with fail
          go_quiet (fail)
          go_wp2_with fail
          go_ret
          exact ⟨by rw [decide_eq_false HR.out]; rfl, below_drewN HBL.out _⟩
      · obtain rfl : k = n := by omega
        have d1 : decide ((k : Int) < (k : Int)) = false := by simp
        have HR : Hid (l = m) := Lib.hid (by
          apply List.ext_getElem (HN.out.symm.trans HN2.out)
          intro i h1 h2
          have := HL.out i (by rw [HN.out]; exact h1)
          simpa [List.getD, h1, h2] using this)
        go_wp2_with fail
        go_ret
        exact ⟨by rw [decide_eq_true HR.out]; rfl, HBL.out⟩
  · have HR : Hid (l ≠ m) := Lib.hid (fun e => hne (by rw [HN.out, HN2.out, e]))
    have d0 : (((n : Nat) : Int) != ((n2 : Nat) : Int)) = true := by simp; omega
    have d0b : decide (((n : Nat) : Int) = ((n2 : Nat) : Int)) = false := decide_eq_false (by omega)
    go_enter Try.func16, Try.ntmps16
    go_wp2_with fail
    go_ret
    exact ⟨by rw [decide_eq_false HR.out]; rfl, Below.refl _ _⟩
end Go.Proofs.Ytaillfnmaiiapaa
