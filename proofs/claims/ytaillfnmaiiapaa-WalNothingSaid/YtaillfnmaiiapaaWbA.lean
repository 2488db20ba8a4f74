/-
  The laws' limits: so few changes, so few keys.
-/
import Derived.Test.YtaillfnmaiiapaaWaWd
import Derived.Test.YtaillfnmaiiapaaLaM
namespace Go.Proofs.Ytaillfnmaiiapaa
open Go.RowKit
/-- changes that came in -/
structure RecsRaw (w : World) (A : Option Addr) (n : Nat) (q : Nat → RAt) : Prop where
  row : Row 5 (rx q) w A n
  labs : ∀ i, i < n → LabRow w (q i).A (q i).r.l.length (La.at_ (q i).r.l)
  words : ∀ i, i < n → Wa.Words (q i).r
  len : ∀ i, i < n → (q i).r.l.length ≤ maxLen
theorem RecsRaw.later {w w2 : World} {A : Option Addr} {n : Nat} {q : Nat → RAt} (h : RecsRaw w A n q) (hb : Below w.heap.size w w2) : RecsRaw w2 A n q :=
  ⟨h.row.later hb, fun i hi => (h.labs i hi).later hb, h.words, h.len⟩
def fewOne (q : Nat → RAt) (i : Nat) : Bool := La.few (La.at_ (q i).r.l) (q i).r.l.length
def fewR (q : Nat → RAt) (n : Nat) : Bool := decide (n ≤ 40) && (List.range n).all (fewOne q)
theorem fewR_no {q : Nat → RAt} {n k : Nat} (hk : k < n) (h : fewOne q k = false) : fewR q n = false := by
  unfold fewR
  have : (List.range n).all (fewOne q) = false := by
    rw [List.all_eq_false]
    exact ⟨k, List.mem_range.2 hk, by rw [h]; exact Bool.false_ne_true⟩
  rw [this, Bool.and_false]
theorem fewR_many {q : Nat → RAt} {n : Nat} (h : 40 < n) : fewR q n = false := by
  unfold fewR
  rw [decide_eq_false (by omega), Bool.false_and]
theorem fewR_all {q : Nat → RAt} {n : Nat} (hn : n ≤ 40) (h : ∀ i, i < n → fewOne q i = true) : fewR q n = true := by
  unfold fewR
  rw [decide_eq_true hn, Bool.true_and, List.all_eq_true]
  intro i hi
  exact h i (List.mem_range.1 hi)
theorem fewR_yes {q : Nat → RAt} {n : Nat} (h : fewR q n = true) : n ≤ 40 ∧ ∀ i, i < n → fewOne q i = true := by
  unfold fewR at h
  simp only [Bool.and_eq_true, decide_eq_true_eq] at h
  exact ⟨h.1, fun i hi => List.all_eq_true.1 h.2 i (List.mem_range.2 hi)⟩
theorem RecsRaw.in_ {w : World} {A : Option Addr} {n : Nat} {q : Nat → RAt} (h : RecsRaw w A n q) (hf : fewR q n = true) : RecsIn w A n q := by
  obtain ⟨h1, h2⟩ := fewR_yes hf
  refine ⟨h.row, fun i hi => ?_, by unfold maxLen; omega⟩
  obtain ⟨h3, h4⟩ := La.few_yes (h2 i hi)
  exact ⟨h.labs i hi, h3, h4, h.words i hi⟩
set_option maxRecDepth 100000 in
set_option maxHeartbeats 1000000 in
theorem FewRecs_any (A : Option Addr) (n c : Nat) (hn : n ≤ maxLen) (q : Nat → RAt) (w : World) (hA : RecsRaw w A n q) :
    Calls Try.prog 9 #[.slice A n c] w fun e w' => e = .returned (.bool (fewR q n)) ∧ Below w.heap.size w w' := by
  unfold maxLen at hn
  have HA := Lib.hid hA; clear hA
  go_enter Try.func9, Try.ntmps9
  go_wp2_with fail
  go_loopw [3, 4] (fun i _ wr => ∃ k : Nat, k ≤ n ∧ k ≤ 41 ∧ i = .int .i64 k ∧ (∀ j, j < k → fewOne q j = true) ∧ Below w.heap.size w wr) (fun i _ _ => n - (intOf i).toNat)
  case atStart => exact ⟨0, Nat.zero_le _, by omega, rfl, (fun j hj => absurd hj (by omega)), Below.refl _ _⟩
  case round =>
    obtain ⟨k, hk, hk11, rfl, hall, hb⟩ := hrel
    by_cases hgo : k < n ∧ k ≤ 40
    · obtain ⟨h1, h2⟩ := hgo
      obtain ⟨ad, rfl, -, c1⟩ := HA.out.row.at_ hb h1
      have x1 := c1 1 (by decide) (by decide)
      have hnx : fewOne q k = true → ∀ j, j < k + 1 → fewOne q j = true := fun h j hj => by
        rcases Nat.lt_or_ge j k with h3 | h3
        · exact hall j h3
        · rw [show j = k from by omega]; exact h
      have HNO := Lib.hid (fun h => fewR_no (q := q) (n := n) (k := k) h1 h); have HNX := Lib.hid hnx; clear hnx hall c1
      have HF : Hid (∀ U, Below w.heap.size w U → Calls Try.prog 18 #[.slice (q k).A (q k).r.l.length (q k).c] U fun e w' => e = .returned (.bool (fewOne q k)) ∧ Below U.heap.size U w') := Lib.hid (fun U hU => Few_any _ _ _ (HA.out.len k h1) _ U ((HA.out.labs k h1).later hU))
      have HB := Lib.hid hb; clear hb
      have x1 : wr.cell? ⟨(ad.add (k * 5)).block, (ad.add (k * 5)).off + 1, none⟩ = some (.slice (q k).A (q k).r.l.length (q k).c) := x1
      have i0 : (0 : Int) ≤ (k : Int) := by omega
      have i1 : (k : Int) < (n : Int) := by omega
      have i2 : (k : Int) ≤ 40 := by omega
      have d1 : decide ((k : Int) < (n : Int)) = true := by simpa using h1
      have d2 : decide ((k : Int) ≤ 40) = true := by simpa using i2
      go_wp2_with fail
      refine (HF.out _ HB.out).mono ?_; rintro e w1 ⟨rfl, hb1⟩
      have HB1 := Lib.hid (below_step HB.out hb1)
      clear hb1 HF
      generalize fewOne q k = b at *
      cases b with
      | true =>
        go_wp2_with fail
        go_roundw
        case rel => exact ⟨k + 1, by omega, by omega, by go_num, HNX.out (by trivial), HB1.out⟩
        case measure => simp [intOf]; omega
      | false =>
        go_wp2_with fail
        go_ret
        rw [HNO.out (by trivial)]
        exact ⟨rfl, HB1.out⟩
    · by_cases hkn : k < n
      · have d1 : decide ((k : Int) < (n : Int)) = true := by simpa using hkn
        have d2 : decide ((k : Int) ≤ 40) = false := by simp; omega
        have d3 : decide ((n : Int) ≤ 40) = false := by simp; omega
        have HR := Lib.hid (fewR_many (q := q) (n := n) (by omega))
        go_wp2_with fail
        go_ret
        rw [HR.out]
        exact ⟨rfl, hb⟩
      · have e : k = n := by omega
        subst e
        have d1 : decide ((k : Int) < (k : Int)) = false := by simp
        by_cases h10 : k ≤ 40
        · have hr := fewR_all h10 hall
          have d3 : decide ((k : Int) ≤ 40) = true := by simp; omega
          have HR := Lib.hid hr; clear hr
          go_wp2_with fail
          go_ret
          rw [HR.out]
          exact ⟨rfl, hb⟩
        · have HR := Lib.hid (fewR_many (q := q) (n := k) (by omega))
          have d3 : decide ((k : Int) ≤ 40) = false := by simp; omega
          go_wp2_with fail
          go_ret
          rw [HR.out]
          exact ⟨rfl, hb⟩
end Go.Proofs.Ytaillfnmaiiapaa
