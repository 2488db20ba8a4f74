/-
  What the references of package label come to that the laws of package match ask: Get, Name, Value.
-/
import Derived.Test.YtcdlkiephdghlaaLgA
namespace Go.Proofs.Ytcdlkiephdghlaa
open Go.RowKit
set_option maxRecDepth 100000 in
set_option maxHeartbeats 1000000 in
theorem rGet_any' (A : Option Addr) (n c : Nat) (hn : n ≤ maxLen) (f : Nat → Lab) (name : ByteArray) (w : World) (hA : LabRow w A n f) :
    Calls Try.prog 36 #[.slice A n c, .string name] w fun e w' => e = .returned (.string (La.get f name n 0)) ∧ Below w.heap.size w w' := by
  unfold maxLen at hn
  have HA := Lib.hid hA; clear hA
  generalize hr : La.get f name n 0 = r
  have HR := Lib.hid hr; clear hr
  go_enter Try.func36, Try.ntmps36
  go_wp2_with fail
  go_loopw [5] (fun i wr => ∃ k : Nat, k ≤ n ∧ i = .int .i64 k ∧ La.get f name (n - k) k = r ∧ Below w.heap.size w wr) (fun i _ => n - (intOf i).toNat)
  case atStart => exact ⟨0, by omega, rfl, HR.out, Below.refl _ _⟩
  case round =>
    obtain ⟨k, hk, rfl, hg, hb⟩ := hrel
    have HB := Lib.hid hb; clear hb
    by_cases hlt : k < n
    · obtain ⟨ad, rfl, c0, c1⟩ := HA.out.at_ HB.out hlt
      have i1 : (k : Int) < (n : Int) := by omega
      have i0 : (0 : Int) ≤ (k : Int) := by omega
      rw [show n - k = (n - (k + 1)) + 1 from by omega, La.get] at hg
      have HG := Lib.hid hg; clear hg
      have HBA := HB
      have hbe := str_beq (f k).1 name
      obtain ⟨x, hx⟩ : ∃ x, (f k).1 = x := ⟨_, rfl⟩
      obtain ⟨y, hy⟩ : ∃ y, (f k).2 = y := ⟨_, rfl⟩
      rw [hx] at c0 HG hbe
      rw [hy] at c1 HG
      clear hx hy
      by_cases he : x = name
      · have hb : (x.toList == name.toList) = true := by rw [hbe]; simpa using he
        have HE := Lib.hid he; clear he hbe
        go_wp2_with fail
        go_ret
        refine ⟨?_, HBA.out⟩
        have := HG.out
        rw [if_pos HE.out] at this
        rw [this]; rfl
      · have hb : (x.toList == name.toList) = false := by rw [hbe]; simpa using he
        have HE := Lib.hid he; clear he hbe
        go_wp2_with fail
        go_roundw
        case rel =>
          have := HG.out
          rw [if_neg HE.out] at this
          exact ⟨k + 1, by omega, by go_num, this, HBA.out⟩
        case measure => simp [intOf]; omega
    · obtain rfl : k = n := by omega
      rw [Nat.sub_self] at hg
      have HG := Lib.hid hg; clear hg
      go_wp2_with fail
      go_ret
      refine ⟨?_, HB.out⟩
      rw [← HG.out]; rfl


namespace La
theorem mask_name (x : Nat) : (mask x &&& 2 ≠ 0) ↔ ((97 ≤ x ∧ x ≤ 122) ∨ x = 95 ∨ (48 ≤ x ∧ x ≤ 57)) := by
  unfold mask
  split
  · simp; omega
  · split
    · simp; omega
    · split
      · simp; omega
      · split <;> simp <;> omega
theorem mask_first (x : Nat) (h : mask x &&& 2 ≠ 0) : (mask x &&& 1 ≠ 0) ↔ ¬ (48 ≤ x ∧ x ≤ 57) := by
  have h2 := (mask_name x).1 h
  unfold mask
  split
  · simp; omega
  · split
    · simp; omega
    · split
      · simp; omega
      · omega
theorem mask_value (x : Nat) : (mask x &&& 4 ≠ 0) ↔ (32 ≤ x ∧ x ≤ 126) := by
  unfold mask
  split
  · simp; omega
  · split
    · simp; omega
    · split
      · simp; omega
      · split <;> simp <;> omega
end La
set_option maxRecDepth 100000 in
set_option maxHeartbeats 1000000 in
theorem rValue_any (s : ByteArray) (hs : s.size ≤ maxLen) (w : World) :
    Calls Try.prog 45 #[.string s] w fun e w' => e = .returned (.bool (La.okValue s)) ∧ Below w.heap.size w w' := by
  unfold maxLen at hs
  have hok : (∀ (k : Nat) (h : k < s.size), 32 ≤ s[k].toNat ∧ s[k].toNat ≤ 126) → La.okValue s = (decide (s.size ≠ 0) && decide (s.size ≤ 48)) := fun h => by
    unfold La.okValue La.allB
    have : s.data.toList.all (fun b => decide ((La.mask b.toNat) &&& 4 ≠ 0)) = true := by
      rw [List.all_eq_true]
      intro b hb
      obtain ⟨k, hk, e⟩ := List.getElem_of_mem hb
      have := h k (by rw [Lib.size_eq]; exact hk)
      have e2 : s[k]'(by rw [Lib.size_eq]; exact hk) = b := e
      rw [e2] at this
      exact decide_eq_true ((La.mask_value _).2 this)
    rw [this, Bool.true_and]
  have hno : ∀ (k : Nat) (h : k < s.size), ¬ (32 ≤ s[k].toNat ∧ s[k].toNat ≤ 126) → La.okValue s = false := fun k h hn => by
    unfold La.okValue La.allB
    have : s.data.toList.all (fun b => decide ((La.mask b.toNat) &&& 4 ≠ 0)) = false := by
      rw [List.all_eq_false]
      refine ⟨s[k], List.getElem_mem (by rw [← Lib.size_eq]; exact h), ?_⟩
      simp only [decide_eq_true_eq]
      exact fun e => hn ((La.mask_value _).1 e)
    rw [this, Bool.false_and]
  have HOK := Lib.hid hok; have HNO := Lib.hid hno; clear hok hno
  go_enter Try.func45, Try.ntmps45
  go_wp2_with fail
  go_loopw [3] (fun i wr => ∃ k : Nat, k ≤ s.size ∧ i = .int .i64 k ∧ (∀ (j : Nat) (h : j < s.size), j < k → 32 ≤ s[j].toNat ∧ s[j].toNat ≤ 126) ∧ Below w.heap.size w wr) (fun i _ => s.size - (intOf i).toNat)
  case atStart => exact ⟨0, Nat.zero_le _, rfl, (fun j h hj => absurd hj (by omega)), Below.refl _ _⟩
  case round =>
    obtain ⟨k, hk, rfl, hall, hb⟩ := hrel
    have HB := Lib.hid hb; clear hb
    by_cases hlt : k < s.size
    · have i1 : (k : Int) < (s.size : Int) := by omega
      have i0 : (0 : Int) ≤ (k : Int) := by omega
      have hn := HNO.out k hlt
      have hnx : 32 ≤ s[k].toNat ∧ s[k].toNat ≤ 126 → ∀ (j : Nat) (h : j < s.size), j < k + 1 → 32 ≤ s[j].toNat ∧ s[j].toNat ≤ 126 := fun h j hj hjk => by
        rcases Nat.lt_or_ge j k with h3 | h3
        · exact hall j hj h3
        · have : j = k := by omega
          subst this; exact h
      have HN := Lib.hid hn; have HNX := Lib.hid hnx; clear hn hnx hall
      generalize hx : s[k] = x at *
      by_cases h1 : x.toNat < 32
      · have d1 : decide (((x.toNat : Nat) : Int) < 32) = true := by simp; omega
        have n1 : decide (x.toNat < 32) = true := by simpa using h1
        go_wp2_with fail
        go_ret
        rw [HN.out (by omega)]
        exact ⟨rfl, HB.out⟩
      · have d1 : decide (((x.toNat : Nat) : Int) < 32) = false := by simp; omega
        have n1 : decide (x.toNat < 32) = false := by simpa using h1
        by_cases h2 : 126 < x.toNat
        · have d2 : decide ((126 : Int) < ((x.toNat : Nat) : Int)) = true := by simp; omega
          have n2 : decide (126 < x.toNat) = true := by simpa using h2
          go_wp2_with fail
          go_ret
          rw [HN.out (by omega)]
          exact ⟨rfl, HB.out⟩
        · have d2 : decide ((126 : Int) < ((x.toNat : Nat) : Int)) = false := by simp; omega
          have n2 : decide (126 < x.toNat) = false := by simpa using h2
          go_wp2_with fail
          go_roundw
          case rel => exact ⟨k + 1, by omega, by go_num, HNX.out ⟨by omega, by omega⟩, HB.out⟩
          case measure => simp [intOf]; omega
    · obtain rfl : k = s.size := by omega
      have hv := HOK.out (fun j h => hall j h h)
      clear hall
      have hem := La.isEmpty_eq s
      by_cases h0 : s.size = 0
      · have he : s.toList.isEmpty = true := by rw [hem]; simpa using h0
        have hd : (decide (s.size ≠ 0) && decide (s.size ≤ 48)) = false := by simp [h0]
        rw [hd] at hv
        have HV := Lib.hid hv; clear hd hem hv h0
        go_wp2_with fail
        go_ret
        rw [HV.out]
        exact ⟨rfl, HB.out⟩
      · have he : s.toList.isEmpty = false := by rw [hem]; simpa using h0
        have hd : (decide (s.size ≠ 0) && decide (s.size ≤ 48)) = decide (s.size ≤ 48) := by rw [decide_eq_true h0, Bool.true_and]
        rw [hd] at hv
        clear hd hem h0
        by_cases h48 : s.size ≤ 48
        · have d3 : decide ((s.size : Int) ≤ 48) = true := by simp; omega
          have n3 : decide (s.size ≤ 48) = true := by simpa using h48
          rw [n3] at hv
          have HV := Lib.hid hv; clear hv
          go_wp2_with fail
          go_ret
          rw [HV.out]
          exact ⟨rfl, HB.out⟩
        · have d3 : decide ((s.size : Int) ≤ 48) = false := by simp; omega
          have n3 : decide (s.size ≤ 48) = false := by simpa using h48
          rw [n3] at hv
          have HV := Lib.hid hv; clear hv
          go_wp2_with fail
          go_ret
          rw [HV.out]
          exact ⟨rfl, HB.out⟩

namespace La
theorem okName_size {s : ByteArray} (h : okName s = true) : 0 < s.size ∧ s.size ≤ 48 := by
  unfold okName at h
  rw [Bool.and_eq_true] at h
  exact allB_pos h.1
def inName (x : Nat) : Prop := (97 ≤ x ∧ x ≤ 122) ∨ x = 95 ∨ (48 ≤ x ∧ x ≤ 57)
theorem okName_no {s : ByteArray} (k : Nat) (h : k < s.size) (hn : ¬ inName s[k].toNat) : okName s = false := by
  unfold okName allB
  have : s.data.toList.all (fun b => decide ((mask b.toNat) &&& 2 ≠ 0)) = false := by
    rw [List.all_eq_false]
    refine ⟨s[k], List.getElem_mem (by rw [← Lib.size_eq]; exact h), ?_⟩
    simp only [decide_eq_true_eq]
    exact fun e => hn ((mask_name _).1 e)
  rw [this, Bool.false_and, Bool.false_and]
theorem okName_all {s : ByteArray} (hz : 0 < s.size) (h48 : s.size ≤ 48) (h : ∀ (k : Nat) (h : k < s.size), inName s[k].toNat) (h0 : ¬ (48 ≤ s[0].toNat ∧ s[0].toNat ≤ 57)) : okName s = true := by
  unfold okName allB
  have : s.data.toList.all (fun b => decide ((mask b.toNat) &&& 2 ≠ 0)) = true := by
    rw [List.all_eq_true]
    intro b hb
    obtain ⟨k, hk, e⟩ := List.getElem_of_mem hb
    have := h k (by rw [Lib.size_eq]; exact hk)
    have e2 : s[k]'(by rw [Lib.size_eq]; exact hk) = b := e
    rw [e2] at this
    exact decide_eq_true ((mask_name _).2 this)
  rw [this, ← first_eq s hz, decide_eq_true (show s.size ≠ 0 by omega), decide_eq_true h48]
  simp only [Bool.true_and, Bool.and_self, decide_eq_true_eq]
  exact (mask_first _ ((mask_name _).2 (h 0 hz))).2 h0
theorem okName_big {s : ByteArray} (h : s.size = 0 ∨ 48 < s.size) : okName s = false := by
  cases e : okName s
  · rfl
  · have := okName_size e; omega
theorem okName_digit {s : ByteArray} (hz : 0 < s.size) (h0 : 48 ≤ s[0].toNat ∧ s[0].toNat ≤ 57) : okName s = false := by
  cases e : okName s
  · rfl
  · unfold okName at e
    rw [Bool.and_eq_true, ← first_eq s hz, decide_eq_true_eq] at e
    exact absurd h0 ((mask_first _ ((mask_name _).2 (.inr (.inr h0)))).1 e.2)
end La
set_option maxRecDepth 100000 in
set_option maxHeartbeats 2000000 in
theorem rName_any (s : ByteArray) (hs : s.size ≤ maxLen) (w : World) :
    Calls Try.prog 44 #[.string s] w fun e w' => e = .returned (.bool (La.okName s)) ∧ Below w.heap.size w w' := by
  unfold maxLen at hs
  have hem := La.isEmpty_eq s
  by_cases h0 : s.size = 0
  · have he : s.toList.isEmpty = true := by rw [hem]; simpa using h0
    rw [La.okName_big (.inl h0)]
    clear hem h0
    go_enter Try.func44, Try.ntmps44
    go_wp2_with fail
    go_ret
    exact ⟨rfl, Below.refl _ _⟩
  have he : s.toList.isEmpty = false := by rw [hem]; simpa using h0
  clear hem
  by_cases h48 : 48 < s.size
  · have d1 : decide ((48 : Int) < (s.size : Int)) = true := by simp; omega
    rw [La.okName_big (.inr h48)]
    go_enter Try.func44, Try.ntmps44
    go_wp2_with fail
    go_ret
    exact ⟨rfl, Below.refl _ _⟩
  have d1 : decide ((48 : Int) < (s.size : Int)) = false := by simp; omega
  have hz : 0 < s.size := by omega
  have hzi : (0 : Int) < (s.size : Int) := by omega
  by_cases hdg : 48 ≤ s[0].toNat ∧ s[0].toNat ≤ 57
  · rw [La.okName_digit hz hdg]
    obtain ⟨g1, g2⟩ := hdg
    generalize hx : s[0] = x at *
    have i1 : decide ((48 : Int) ≤ ((x.toNat : Nat) : Int)) = true := by simp; omega
    have i2 : decide (((x.toNat : Nat) : Int) ≤ 57) = true := by simp; omega
    have n1 : decide (48 ≤ x.toNat) = true := by simp; omega
    have n2 : decide (x.toNat ≤ 57) = true := by simp; omega
    go_enter Try.func44, Try.ntmps44
    go_wp2_with fail
    go_ret
    exact ⟨rfl, Below.refl _ _⟩
  have hall0 : (∀ (k : Nat) (h : k < s.size), La.inName s[k].toNat) → La.okName s = true := fun h => La.okName_all hz (by omega) h hdg
  have hno0 : ∀ (k : Nat) (h : k < s.size), ¬ La.inName s[k].toNat → La.okName s = false := fun k h hn => La.okName_no k h hn
  have HALL := Lib.hid hall0; have HNO := Lib.hid hno0; clear hall0 hno0
  have hway : (decide ((48 : Int) ≤ ((s[0].toNat : Nat) : Int)) = false ∧ decide (48 ≤ s[0].toNat) = false) ∨ (decide ((48 : Int) ≤ ((s[0].toNat : Nat) : Int)) = true ∧ decide (48 ≤ s[0].toNat) = true ∧ decide (((s[0].toNat : Nat) : Int) ≤ 57) = false ∧ decide (s[0].toNat ≤ 57) = false) := by
    generalize s[0].toNat = x at *
    by_cases h : 48 ≤ x
    · right; refine ⟨?_, ?_, ?_, ?_⟩ <;> simp <;> omega
    · left; refine ⟨?_, ?_⟩ <;> simp <;> omega
  generalize La.okName s = r at *
  clear hdg
  rcases hway with ⟨g1, g2⟩ | ⟨g1, g2, g3, g4⟩
  all_goals
    generalize hx0 : s[0] = x0 at *
    go_enter Try.func44, Try.ntmps44
    go_wp2_with fail
    go_loopw [3] (fun i wr => ∃ k : Nat, k ≤ s.size ∧ i = .int .i64 k ∧ (∀ (j : Nat) (h : j < s.size), j < k → La.inName s[j].toNat) ∧ Below w.heap.size w wr) (fun i _ => s.size - (intOf i).toNat)
    case atStart => exact ⟨0, Nat.zero_le _, rfl, (fun j h hj => absurd hj (by omega)), Below.refl _ _⟩
    case round =>
      obtain ⟨k, hk, rfl, hall, hb⟩ := hrel
      have HB := Lib.hid hb; clear hb hx0
      by_cases hlt : k < s.size
      · have i1 : (k : Int) < (s.size : Int) := by omega
        have i0 : (0 : Int) ≤ (k : Int) := by omega
        have hn := HNO.out k hlt
        have hnx : La.inName s[k].toNat → ∀ (j : Nat) (h : j < s.size), j < k + 1 → La.inName s[j].toNat := fun h j hj hjk => by
          rcases Nat.lt_or_ge j k with h3 | h3
          · exact hall j hj h3
          · have : j = k := by omega
            subst this; exact h
        have HN := Lib.hid hn; have HNX := Lib.hid hnx; clear hn hnx hall
        generalize hx : s[k] = x at *
        have hcl : x.toNat < 48 ∨ (48 ≤ x.toNat ∧ x.toNat ≤ 57) ∨ (58 ≤ x.toNat ∧ x.toNat ≤ 94) ∨ x.toNat = 95 ∨ x.toNat = 96 ∨ (97 ≤ x.toNat ∧ x.toNat ≤ 122) ∨ 122 < x.toNat := by omega
        rcases hcl with hc | hc | hc | hc | hc | hc | hc
        · have ia : decide ((97 : Int) ≤ ((x.toNat : Nat) : Int)) = false := by simp; omega
          have na : decide (97 ≤ x.toNat) = false := by simp; omega
          have ib : decide (((x.toNat : Nat) : Int) ≤ 122) = true := by simp; omega
          have nb : decide (x.toNat ≤ 122) = true := by simp; omega
          have ic : (((x.toNat : Nat) : Int) == 95) = false := by simp; omega
          have nc : (x.toNat == 95) = false := by simp; omega
          have id : decide ((48 : Int) ≤ ((x.toNat : Nat) : Int)) = false := by simp; omega
          have nd : decide (48 ≤ x.toNat) = false := by simp; omega
          have ie : decide (((x.toNat : Nat) : Int) ≤ 57) = true := by simp; omega
          have ne : decide (x.toNat ≤ 57) = true := by simp; omega
          have hrf := HN.out (by unfold La.inName; omega)
          clear hc
          go_wp2_with fail
          go_ret
          rw [hrf]
          exact ⟨rfl, HB.out⟩
        · have ia : decide ((97 : Int) ≤ ((x.toNat : Nat) : Int)) = false := by simp; omega
          have na : decide (97 ≤ x.toNat) = false := by simp; omega
          have ib : decide (((x.toNat : Nat) : Int) ≤ 122) = true := by simp; omega
          have nb : decide (x.toNat ≤ 122) = true := by simp; omega
          have ic : (((x.toNat : Nat) : Int) == 95) = false := by simp; omega
          have nc : (x.toNat == 95) = false := by simp; omega
          have id : decide ((48 : Int) ≤ ((x.toNat : Nat) : Int)) = true := by simp; omega
          have nd : decide (48 ≤ x.toNat) = true := by simp; omega
          have ie : decide (((x.toNat : Nat) : Int) ≤ 57) = true := by simp; omega
          have ne : decide (x.toNat ≤ 57) = true := by simp; omega
          have hin : La.inName x.toNat := by unfold La.inName; omega
          clear hc
          go_wp2_with fail
          go_roundw
          case rel => exact ⟨k + 1, by omega, by go_num, HNX.out hin, HB.out⟩
          case measure => simp [intOf]; omega
        · have ia : decide ((97 : Int) ≤ ((x.toNat : Nat) : Int)) = false := by simp; omega
          have na : decide (97 ≤ x.toNat) = false := by simp; omega
          have ib : decide (((x.toNat : Nat) : Int) ≤ 122) = true := by simp; omega
          have nb : decide (x.toNat ≤ 122) = true := by simp; omega
          have ic : (((x.toNat : Nat) : Int) == 95) = false := by simp; omega
          have nc : (x.toNat == 95) = false := by simp; omega
          have id : decide ((48 : Int) ≤ ((x.toNat : Nat) : Int)) = true := by simp; omega
          have nd : decide (48 ≤ x.toNat) = true := by simp; omega
          have ie : decide (((x.toNat : Nat) : Int) ≤ 57) = false := by simp; omega
          have ne : decide (x.toNat ≤ 57) = false := by simp; omega
          have hrf := HN.out (by unfold La.inName; omega)
          clear hc
          go_wp2_with fail
          go_ret
          rw [hrf]
          exact ⟨rfl, HB.out⟩
        · have ia : decide ((97 : Int) ≤ ((x.toNat : Nat) : Int)) = false := by simp; omega
          have na : decide (97 ≤ x.toNat) = false := by simp; omega
          have ib : decide (((x.toNat : Nat) : Int) ≤ 122) = true := by simp; omega
          have nb : decide (x.toNat ≤ 122) = true := by simp; omega
          have ic : (((x.toNat : Nat) : Int) == 95) = true := by simp; omega
          have nc : (x.toNat == 95) = true := by simp; omega
          have id : decide ((48 : Int) ≤ ((x.toNat : Nat) : Int)) = true := by simp; omega
          have nd : decide (48 ≤ x.toNat) = true := by simp; omega
          have ie : decide (((x.toNat : Nat) : Int) ≤ 57) = false := by simp; omega
          have ne : decide (x.toNat ≤ 57) = false := by simp; omega
          have hin : La.inName x.toNat := by unfold La.inName; omega
          clear hc
          go_wp2_with fail
          go_roundw
          case rel => exact ⟨k + 1, by omega, by go_num, HNX.out hin, HB.out⟩
          case measure => simp [intOf]; omega
        · have ia : decide ((97 : Int) ≤ ((x.toNat : Nat) : Int)) = false := by simp; omega
          have na : decide (97 ≤ x.toNat) = false := by simp; omega
          have ib : decide (((x.toNat : Nat) : Int) ≤ 122) = true := by simp; omega
          have nb : decide (x.toNat ≤ 122) = true := by simp; omega
          have ic : (((x.toNat : Nat) : Int) == 95) = false := by simp; omega
          have nc : (x.toNat == 95) = false := by simp; omega
          have id : decide ((48 : Int) ≤ ((x.toNat : Nat) : Int)) = true := by simp; omega
          have nd : decide (48 ≤ x.toNat) = true := by simp; omega
          have ie : decide (((x.toNat : Nat) : Int) ≤ 57) = false := by simp; omega
          have ne : decide (x.toNat ≤ 57) = false := by simp; omega
          have hrf := HN.out (by unfold La.inName; omega)
          clear hc
          go_wp2_with fail
          go_ret
          rw [hrf]
          exact ⟨rfl, HB.out⟩
        · have ia : decide ((97 : Int) ≤ ((x.toNat : Nat) : Int)) = true := by simp; omega
          have na : decide (97 ≤ x.toNat) = true := by simp; omega
          have ib : decide (((x.toNat : Nat) : Int) ≤ 122) = true := by simp; omega
          have nb : decide (x.toNat ≤ 122) = true := by simp; omega
          have ic : (((x.toNat : Nat) : Int) == 95) = false := by simp; omega
          have nc : (x.toNat == 95) = false := by simp; omega
          have id : decide ((48 : Int) ≤ ((x.toNat : Nat) : Int)) = true := by simp; omega
          have nd : decide (48 ≤ x.toNat) = true := by simp; omega
          have ie : decide (((x.toNat : Nat) : Int) ≤ 57) = false := by simp; omega
          have ne : decide (x.toNat ≤ 57) = false := by simp; omega
          have hin : La.inName x.toNat := by unfold La.inName; omega
          clear hc
          go_wp2_with fail
          go_roundw
          case rel => exact ⟨k + 1, by omega, by go_num, HNX.out hin, HB.out⟩
          case measure => simp [intOf]; omega
        · have ia : decide ((97 : Int) ≤ ((x.toNat : Nat) : Int)) = true := by simp; omega
          have na : decide (97 ≤ x.toNat) = true := by simp; omega
          have ib : decide (((x.toNat : Nat) : Int) ≤ 122) = false := by simp; omega
          have nb : decide (x.toNat ≤ 122) = false := by simp; omega
          have ic : (((x.toNat : Nat) : Int) == 95) = false := by simp; omega
          have nc : (x.toNat == 95) = false := by simp; omega
          have id : decide ((48 : Int) ≤ ((x.toNat : Nat) : Int)) = true := by simp; omega
          have nd : decide (48 ≤ x.toNat) = true := by simp; omega
          have ie : decide (((x.toNat : Nat) : Int) ≤ 57) = false := by simp; omega
          have ne : decide (x.toNat ≤ 57) = false := by simp; omega
          have hrf := HN.out (by unfold La.inName; omega)
          clear hc
          go_wp2_with fail
          go_ret
          rw [hrf]
          exact ⟨rfl, HB.out⟩
      · obtain rfl : k = s.size := by omega
        have hrt := HALL.out (fun j h => hall j h h)
        clear hall
        go_wp2_with fail
        go_ret
        rw [hrt]
        exact ⟨rfl, HB.out⟩
end Go.Proofs.Ytcdlkiephdghlaa
