import Derived.Test.YtliobahnekohmaaGreatLaT
import Derived.Test.YtliobahnekohmaaGreatIvD
/-
  Labels: what the references come to: Limit, Longest, Get, Name, Value.
-/
namespace Go.Proofs.YtliobahnekohmaaGreat
open Go.RowKit
set_option maxHeartbeats 400000 in
theorem rLimit_any (g : Int) (w : World) :
 Calls Tryz.prog 42 #[.int .i64 g] w fun e w' => e = .returned (.int .i64 ((La.limit g : Nat) : Int)) ∧ w = w' := by
 have hc : (g ≠ 1 ∧ g ≠ 2 ∧ g ≠ 3) ∨ g = 1 ∨ g = 2 ∨ g = 3 := by omega
 rcases hc with ⟨h1, h2, h3⟩ | rfl | rfl | rfl
 · have hl : La.limit g = 0 := by unfold La.limit; rw [if_neg h1, if_neg h2, if_neg h3]
   rw [hl]
   have d1 : (g == 1) = false := by simpa using h1
   have d2 : (g == 2) = false := by simpa using h2
   have d3 : (g == 3) = false := by simpa using h3
   clear hl h1 h2 h3
   go_enter Tryz.func42, Tryz.ntmps42
   go_wp2_with fail
   go_ret
   exact ⟨rfl, rfl⟩
 all_goals
  go_enter Tryz.func42, Tryz.ntmps42
  go_wp2_with fail
  go_ret
  exact ⟨rfl, rfl⟩
set_option maxRecDepth 100000 in
set_option maxHeartbeats 1000000 in
theorem rLongest_any (A : Option Addr) (n c : Nat) (hn : n ≤ maxLen) (f : Nat → Lab) (hs : ∀ i, i < n → (f i).1.size ≤ maxLen ∧ (f i).2.size ≤ maxLen) (w : World) (hA : LabRow w A n f) :
 Calls Tryz.prog 41 #[.slice A n c] w fun e w' => e = .returned (.int .i64 ((La.longest f n : Nat) : Int)) ∧ Below w.heap.size w w' := by
 unfold maxLen at hn
 have HA := Lib.hid hA; have HSZ := Lib.hid hs; clear hA hs
 go_enter Tryz.func41, Tryz.ntmps41
 go_wp2_with fail
 go_loopw [3, 4] (fun v i wr => ∃ k : Nat, k ≤ n ∧ i = .int .i64 k ∧ v = .int .i64 (La.longest f k : Nat) ∧ Below w.heap.size w wr) (fun _ i _ => n - (intOf i).toNat)
 case atStart => exact ⟨0, by omega, rfl, rfl, Below.refl _ _⟩
 case round =>
  obtain ⟨k, hk, rfl, rfl, hb⟩ := hrel
  have HB := Lib.hid hb; clear hb
  by_cases hlt : k < n
  · obtain ⟨ad, rfl, c0, c1⟩ := HA.out.at_ HB.out hlt
    have hsz := HSZ.out k hlt
    have hlo : La.longest f (k + 1) = max (La.longest f k) (max (f k).1.size (f k).2.size) := rfl
    have HLO := Lib.hid hlo; clear hlo
    generalize (f k).1 = x at *
    generalize (f k).2 = y at *
    generalize La.longest f k = m at *
    have i1 : (k : Int) < (n : Int) := by omega
    have i0 : (0 : Int) ≤ (k : Int) := by omega
    go_wp2_with fail
    go_quiet (fail)
    all_goals
     go_wp2_with fail
     go_roundw
     case rel => exact ⟨k + 1, by omega, by go_num, by congr 1; rw [HLO.out]; omega, below_drewN HB.out _⟩
     case measure => simp [intOf]; omega
  · obtain rfl : k = n := by omega
    go_wp2_with fail
    go_ret
    exact ⟨rfl, HB.out⟩
namespace La
theorem mask_name (x : Nat) : (mask x &&& 2 ≠ 0) ↔ ((97 ≤ x ∧ x ≤ 122) ∨ x = 95 ∨ (48 ≤ x ∧ x ≤ 57)) := by
 unfold mask
 split
 · simp; omega
 · split
   · simp; omega
   · split
     · simp; omega
     · split <;> simp <;> omega
theorem mask_first (x : Nat) (h : mask x &&& 2 ≠ 0) : (mask x &&& 1 ≠ 0) ↔ ¬ (48 ≤ x ∧ x ≤ 57) := by
 have h2 := (mask_name x).1 h
 unfold mask
 split
 · simp; omega
 · split
   · simp; omega
   · split
     · simp; omega
     · omega
theorem mask_value (x : Nat) : (mask x &&& 4 ≠ 0) ↔ (32 ≤ x ∧ x ≤ 126) := by
 unfold mask
 split
 · simp; omega
 · split
   · simp; omega
   · split
     · simp; omega
     · split <;> simp <;> omega
end La
set_option maxRecDepth 100000 in
set_option maxHeartbeats 1000000 in
theorem rValue_any (s : ByteArray) (hs : s.size ≤ maxLen) (w : World) :
 Calls Tryz.prog 82 #[.string s] w fun e w' => e = .returned (.bool (La.okValue s)) ∧ Below w.heap.size w w' := by
 unfold maxLen at hs
 have hok : (∀ (k : Nat) (h : k < s.size), 32 ≤ s[k].toNat ∧ s[k].toNat ≤ 126) → La.okValue s = (decide (s.size ≠ 0) && decide (s.size ≤ 48)) := fun h => by
  unfold La.okValue La.allB
  have : s.data.toList.all (fun b => decide ((La.mask b.toNat) &&& 4 ≠ 0)) = true := by
   rw [List.all_eq_true]
   intro b hb
   obtain ⟨k, hk, e⟩ := List.getElem_of_mem hb
   have := h k (by rw [Lib.size_eq]; exact hk)
   have e2 : s[k]'(by rw [Lib.size_eq]; exact hk) = b := e
   rw [e2] at this
   exact decide_eq_true ((La.mask_value _).2 this)
  rw [this, Bool.true_and]
 have hno : ∀ (k : Nat) (h : k < s.size), ¬ (32 ≤ s[k].toNat ∧ s[k].toNat ≤ 126) → La.okValue s = false := fun k h hn => by
  unfold La.okValue La.allB
  have : s.data.toList.all (fun b => decide ((La.mask b.toNat) &&& 4 ≠ 0)) = false := by
   rw [List.all_eq_false]
   refine ⟨s[k], List.getElem_mem (by rw [← Lib.size_eq]; exact h), ?_⟩
   simp only [decide_eq_true_eq]
   exact fun e => hn ((La.mask_value _).1 e)
  rw [this, Bool.false_and]
 have HOK := Lib.hid hok; have HNO := Lib.hid hno; clear hok hno
 go_enter Tryz.func82, Tryz.ntmps82
 go_wp2_with fail
 go_loopw [3] (fun i wr => ∃ k : Nat, k ≤ s.size ∧ i = .int .i64 k ∧ (∀ (j : Nat) (h : j < s.size), j < k → 32 ≤ s[j].toNat ∧ s[j].toNat ≤ 126) ∧ Below w.heap.size w wr) (fun i _ => s.size - (intOf i).toNat)
 case atStart => exact ⟨0, Nat.zero_le _, rfl, (fun j h hj => absurd hj (by omega)), Below.refl _ _⟩
 case round =>
  obtain ⟨k, hk, rfl, hall, hb⟩ := hrel
  have HB := Lib.hid hb; clear hb
  by_cases hlt : k < s.size
  · have i1 : (k : Int) < (s.size : Int) := by omega
    have i0 : (0 : Int) ≤ (k : Int) := by omega
    have hn := HNO.out k hlt
    have hnx : 32 ≤ s[k].toNat ∧ s[k].toNat ≤ 126 → ∀ (j : Nat) (h : j < s.size), j < k + 1 → 32 ≤ s[j].toNat ∧ s[j].toNat ≤ 126 := fun h j hj hjk => by
     rcases Nat.lt_or_ge j k with h3 | h3
     · exact hall j hj h3
     · have : j = k := by omega
       subst this; exact h
    have HN := Lib.hid hn; have HNX := Lib.hid hnx; clear hn hnx hall
    generalize hx : s[k] = x at *
    by_cases h1 : x.toNat < 32
    · have d1 : decide (((x.toNat : Nat) : Int) < 32) = true := by simp; omega
      have n1 : decide (x.toNat < 32) = true := by simpa using h1
      go_wp2_with fail
      go_ret
      rw [HN.out (by omega)]
      exact ⟨rfl, HB.out⟩
    · have d1 : decide (((x.toNat : Nat) : Int) < 32) = false := by simp; omega
      have n1 : decide (x.toNat < 32) = false := by simpa using h1
      by_cases h2 : 126 < x.toNat
      · have d2 : decide ((126 : Int) < ((x.toNat : Nat) : Int)) = true := by simp; omega
        have n2 : decide (126 < x.toNat) = true := by simpa using h2
        go_wp2_with fail
        go_ret
        rw [HN.out (by omega)]
        exact ⟨rfl, HB.out⟩
      · have d2 : decide ((126 : Int) < ((x.toNat : Nat) : Int)) = false := by simp; omega
        have n2 : decide (126 < x.toNat) = false := by simpa using h2
        go_wp2_with fail
        go_roundw
        case rel => exact ⟨k + 1, by omega, by go_num, HNX.out ⟨by omega, by omega⟩, HB.out⟩
        case measure => simp [intOf]; omega
  · obtain rfl : k = s.size := by omega
    have hv := HOK.out (fun j h => hall j h h)
    clear hall
    have hem := La.isEmpty_eq s
    by_cases h0 : s.size = 0
    · have he : s.toList.isEmpty = true := by rw [hem]; simpa using h0
      have hd : (decide (s.size ≠ 0) && decide (s.size ≤ 48)) = false := by simp [h0]
      rw [hd] at hv
      have HV := Lib.hid hv; clear hd hem hv h0
      go_wp2_with fail
      go_ret
      rw [HV.out]
      exact ⟨rfl, HB.out⟩
    · have he : s.toList.isEmpty = false := by rw [hem]; simpa using h0
      have hd : (decide (s.size ≠ 0) && decide (s.size ≤ 48)) = decide (s.size ≤ 48) := by rw [decide_eq_true h0, Bool.true_and]
      rw [hd] at hv
      clear hd hem h0
      by_cases h48 : s.size ≤ 48
      · have d3 : decide ((s.size : Int) ≤ 48) = true := by simp; omega
        have n3 : decide (s.size ≤ 48) = true := by simpa using h48
        rw [n3] at hv
        have HV := Lib.hid hv; clear hv
        go_wp2_with fail
        go_ret
        rw [HV.out]
        exact ⟨rfl, HB.out⟩
      · have d3 : decide ((s.size : Int) ≤ 48) = false := by simp; omega
        have n3 : decide (s.size ≤ 48) = false := by simpa using h48
        rw [n3] at hv
        have HV := Lib.hid hv; clear hv
        go_wp2_with fail
        go_ret
        rw [HV.out]
        exact ⟨rfl, HB.out⟩
namespace La
def inName (x : Nat) : Prop := (97 ≤ x ∧ x ≤ 122) ∨ x = 95 ∨ (48 ≤ x ∧ x ≤ 57)
theorem okName_no {s : ByteArray} (k : Nat) (h : k < s.size) (hn : ¬ inName s[k].toNat) : okName s = false := by
 unfold okName allB
 have : s.data.toList.all (fun b => decide ((mask b.toNat) &&& 2 ≠ 0)) = false := by
  rw [List.all_eq_false]
  refine ⟨s[k], List.getElem_mem (by rw [← Lib.size_eq]; exact h), ?_⟩
  simp only [decide_eq_true_eq]
  exact fun e => hn ((mask_name _).1 e)
 rw [this, Bool.false_and, Bool.false_and]
theorem okName_all {s : ByteArray} (hz : 0 < s.size) (h48 : s.size ≤ 48) (h : ∀ (k : Nat) (h : k < s.size), inName s[k].toNat) (h0 : ¬ (48 ≤ s[0].toNat ∧ s[0].toNat ≤ 57)) : okName s = true := by
 unfold okName allB
 have : s.data.toList.all (fun b => decide ((mask b.toNat) &&& 2 ≠ 0)) = true := by
  rw [List.all_eq_true]
  intro b hb
  obtain ⟨k, hk, e⟩ := List.getElem_of_mem hb
  have := h k (by rw [Lib.size_eq]; exact hk)
  have e2 : s[k]'(by rw [Lib.size_eq]; exact hk) = b := e
  rw [e2] at this
  exact decide_eq_true ((mask_name _).2 this)
 rw [this, ← first_eq s hz, decide_eq_true (show s.size ≠ 0 by omega), decide_eq_true h48]
 simp only [Bool.true_and, Bool.and_self, decide_eq_true_eq]
 exact (mask_first _ ((mask_name _).2 (h 0 hz))).2 h0
theorem okName_big {s : ByteArray} (h : s.size = 0 ∨ 48 < s.size) : okName s = false := by
 cases e : okName s
 · rfl
 · have := okName_size e; omega
theorem okName_digit {s : ByteArray} (hz : 0 < s.size) (h0 : 48 ≤ s[0].toNat ∧ s[0].toNat ≤ 57) : okName s = false := by
 cases e : okName s
 · rfl
 · unfold okName at e
   rw [Bool.and_eq_true, ← first_eq s hz, decide_eq_true_eq] at e
   exact absurd h0 ((mask_first _ ((mask_name _).2 (.inr (.inr h0)))).1 e.2)
end La
set_option maxRecDepth 100000 in
set_option maxHeartbeats 2000000 in
theorem rName_any (s : ByteArray) (hs : s.size ≤ maxLen) (w : World) :
 Calls Tryz.prog 81 #[.string s] w fun e w' => e = .returned (.bool (La.okName s)) ∧ Below w.heap.size w w' := by
 unfold maxLen at hs
 have hem := La.isEmpty_eq s
 by_cases h0 : s.size = 0
 · have he : s.toList.isEmpty = true := by rw [hem]; simpa using h0
   rw [La.okName_big (.inl h0)]
   clear hem h0
   go_enter Tryz.func81, Tryz.ntmps81
   go_wp2_with fail
   go_ret
   exact ⟨rfl, Below.refl _ _⟩
 have he : s.toList.isEmpty = false := by rw [hem]; simpa using h0
 clear hem
 by_cases h48 : 48 < s.size
 · have d1 : decide ((48 : Int) < (s.size : Int)) = true := by simp; omega
   rw [La.okName_big (.inr h48)]
   go_enter Tryz.func81, Tryz.ntmps81
   go_wp2_with fail
   go_ret
   exact ⟨rfl, Below.refl _ _⟩
 have d1 : decide ((48 : Int) < (s.size : Int)) = false := by simp; omega
 have hz : 0 < s.size := by omega
 have hzi : (0 : Int) < (s.size : Int) := by omega
 by_cases hdg : 48 ≤ s[0].toNat ∧ s[0].toNat ≤ 57
 · rw [La.okName_digit hz hdg]
   obtain ⟨g1, g2⟩ := hdg
   generalize hx : s[0] = x at *
   have i1 : decide ((48 : Int) ≤ ((x.toNat : Nat) : Int)) = true := by simp; omega
   have i2 : decide (((x.toNat : Nat) : Int) ≤ 57) = true := by simp; omega
   have n1 : decide (48 ≤ x.toNat) = true := by simp; omega
   have n2 : decide (x.toNat ≤ 57) = true := by simp; omega
   go_enter Tryz.func81, Tryz.ntmps81
   go_wp2_with fail
   go_ret
   exact ⟨rfl, Below.refl _ _⟩
 have hall0 : (∀ (k : Nat) (h : k < s.size), La.inName s[k].toNat) → La.okName s = true := fun h => La.okName_all hz (by omega) h hdg
 have hno0 : ∀ (k : Nat) (h : k < s.size), ¬ La.inName s[k].toNat → La.okName s = false := fun k h hn => La.okName_no k h hn
 have HALL := Lib.hid hall0; have HNO := Lib.hid hno0; clear hall0 hno0
 have hway : (decide ((48 : Int) ≤ ((s[0].toNat : Nat) : Int)) = false ∧ decide (48 ≤ s[0].toNat) = false) ∨ (decide ((48 : Int) ≤ ((s[0].toNat : Nat) : Int)) = true ∧ decide (48 ≤ s[0].toNat) = true ∧ decide (((s[0].toNat : Nat) : Int) ≤ 57) = false ∧ decide (s[0].toNat ≤ 57) = false) := by
  generalize s[0].toNat = x at *
  by_cases h : 48 ≤ x
  · right; refine ⟨?_, ?_, ?_, ?_⟩ <;> simp <;> omega
  · left; refine ⟨?_, ?_⟩ <;> simp <;> omega
 generalize La.okName s = r at *
 clear hdg
 rcases hway with ⟨g1, g2⟩ | ⟨g1, g2, g3, g4⟩
 all_goals
  generalize hx0 : s[0] = x0 at *
  go_enter Tryz.func81, Tryz.ntmps81
  go_wp2_with fail
  go_loopw [3] (fun i wr => ∃ k : Nat, k ≤ s.size ∧ i = .int .i64 k ∧ (∀ (j : Nat) (h : j < s.size), j < k → La.inName s[j].toNat) ∧ Below w.heap.size w wr) (fun i _ => s.size - (intOf i).toNat)
  case atStart => exact ⟨0, Nat.zero_le _, rfl, (fun j h hj => absurd hj (by omega)), Below.refl _ _⟩
  case round =>
   obtain ⟨k, hk, rfl, hall, hb⟩ := hrel
   have HB := Lib.hid hb; clear hb hx0
   by_cases hlt : k < s.size
   · have i1 : (k : Int) < (s.size : Int) := by omega
     have i0 : (0 : Int) ≤ (k : Int) := by omega
     have hn := HNO.out k hlt
     have hnx : La.inName s[k].toNat → ∀ (j : Nat) (h : j < s.size), j < k + 1 → La.inName s[j].toNat := fun h j hj hjk => by
      rcases Nat.lt_or_ge j k with h3 | h3
      · exact hall j hj h3
      · have : j = k := by omega
        subst this; exact h
     have HN := Lib.hid hn; have HNX := Lib.hid hnx; clear hn hnx hall
     generalize hx : s[k] = x at *
     have hcl : x.toNat < 48 ∨ (48 ≤ x.toNat ∧ x.toNat ≤ 57) ∨ (58 ≤ x.toNat ∧ x.toNat ≤ 94) ∨ x.toNat = 95 ∨ x.toNat = 96 ∨ (97 ≤ x.toNat ∧ x.toNat ≤ 122) ∨ 122 < x.toNat := by omega
     rcases hcl with hc | hc | hc | hc | hc | hc | hc
     · have ia : decide ((97 : Int) ≤ ((x.toNat : Nat) : Int)) = false := by simp; omega
       have na : decide (97 ≤ x.toNat) = false := by simp; omega
       have ib : decide (((x.toNat : Nat) : Int) ≤ 122) = true := by simp; omega
       have nb : decide (x.toNat ≤ 122) = true := by simp; omega
       have ic : (((x.toNat : Nat) : Int) == 95) = false := by simp; omega
       have nc : (x.toNat == 95) = false := by simp; omega
       have id : decide ((48 : Int) ≤ ((x.toNat : Nat) : Int)) = false := by simp; omega
       have nd : decide (48 ≤ x.toNat) = false := by simp; omega
       have ie : decide (((x.toNat : Nat) : Int) ≤ 57) = true := by simp; omega
       have ne : decide (x.toNat ≤ 57) = true := by simp; omega
       have hrf := HN.out (by unfold La.inName; omega)
       clear hc
       go_wp2_with fail
       go_ret
       rw [hrf]
       exact ⟨rfl, HB.out⟩
     · have ia : decide ((97 : Int) ≤ ((x.toNat : Nat) : Int)) = false := by simp; omega
       have na : decide (97 ≤ x.toNat) = false := by simp; omega
       have ib : decide (((x.toNat : Nat) : Int) ≤ 122) = true := by simp; omega
       have nb : decide (x.toNat ≤ 122) = true := by simp; omega
       have ic : (((x.toNat : Nat) : Int) == 95) = false := by simp; omega
       have nc : (x.toNat == 95) = false := by simp; omega
       have id : decide ((48 : Int) ≤ ((x.toNat : Nat) : Int)) = true := by simp; omega
       have nd : decide (48 ≤ x.toNat) = true := by simp; omega
       have ie : decide (((x.toNat : Nat) : Int) ≤ 57) = true := by simp; omega
       have ne : decide (x.toNat ≤ 57) = true := by simp; omega
       have hin : La.inName x.toNat := by unfold La.inName; omega
       clear hc
       go_wp2_with fail
       go_roundw
       case rel => exact ⟨k + 1, by omega, by go_num, HNX.out hin, HB.out⟩
       case measure => simp [intOf]; omega
     · have ia : decide ((97 : Int) ≤ ((x.toNat : Nat) : Int)) = false := by simp; omega
       have na : decide (97 ≤ x.toNat) = false := by simp; omega
       have ib : decide (((x.toNat : Nat) : Int) ≤ 122) = true := by simp; omega
       have nb : decide (x.toNat ≤ 122) = true := by simp; omega
       have ic : (((x.toNat : Nat) : Int) == 95) = false := by simp; omega
       have nc : (x.toNat == 95) = false := by simp; omega
       have id : decide ((48 : Int) ≤ ((x.toNat : Nat) : Int)) = true := by simp; omega
       have nd : decide (48 ≤ x.toNat) = true := by simp; omega
       have ie : decide (((x.toNat : Nat) : Int) ≤ 57) = false := by simp; omega
       have ne : decide (x.toNat ≤ 57) = false := by simp; omega
       have hrf := HN.out (by unfold La.inName; omega)
       clear hc
       go_wp2_with fail
       go_ret
       rw [hrf]
       exact ⟨rfl, HB.out⟩
     · have ia : decide ((97 : Int) ≤ ((x.toNat : Nat) : Int)) = false := by simp; omega
       have na : decide (97 ≤ x.toNat) = false := by simp; omega
       have ib : decide (((x.toNat : Nat) : Int) ≤ 122) = true := by simp; omega
       have nb : decide (x.toNat ≤ 122) = true := by simp; omega
       have ic : (((x.toNat : Nat) : Int) == 95) = true := by simp; omega
       have nc : (x.toNat == 95) = true := by simp; omega
       have id : decide ((48 : Int) ≤ ((x.toNat : Nat) : Int)) = true := by simp; omega
       have nd : decide (48 ≤ x.toNat) = true := by simp; omega
       have ie : decide (((x.toNat : Nat) : Int) ≤ 57) = false := by simp; omega
       have ne : decide (x.toNat ≤ 57) = false := by simp; omega
       have hin : La.inName x.toNat := by unfold La.inName; omega
       clear hc
       go_wp2_with fail
       go_roundw
       case rel => exact ⟨k + 1, by omega, by go_num, HNX.out hin, HB.out⟩
       case measure => simp [intOf]; omega
     · have ia : decide ((97 : Int) ≤ ((x.toNat : Nat) : Int)) = false := by simp; omega
       have na : decide (97 ≤ x.toNat) = false := by simp; omega
       have ib : decide (((x.toNat : Nat) : Int) ≤ 122) = true := by simp; omega
       have nb : decide (x.toNat ≤ 122) = true := by simp; omega
       have ic : (((x.toNat : Nat) : Int) == 95) = false := by simp; omega
       have nc : (x.toNat == 95) = false := by simp; omega
       have id : decide ((48 : Int) ≤ ((x.toNat : Nat) : Int)) = true := by simp; omega
       have nd : decide (48 ≤ x.toNat) = true := by simp; omega
       have ie : decide (((x.toNat : Nat) : Int) ≤ 57) = false := by simp; omega
       have ne : decide (x.toNat ≤ 57) = false := by simp; omega
       have hrf := HN.out (by unfold La.inName; omega)
       clear hc
       go_wp2_with fail
       go_ret
       rw [hrf]
       exact ⟨rfl, HB.out⟩
     · have ia : decide ((97 : Int) ≤ ((x.toNat : Nat) : Int)) = true := by simp; omega
       have na : decide (97 ≤ x.toNat) = true := by simp; omega
       have ib : decide (((x.toNat : Nat) : Int) ≤ 122) = true := by simp; omega
       have nb : decide (x.toNat ≤ 122) = true := by simp; omega
       have ic : (((x.toNat : Nat) : Int) == 95) = false := by simp; omega
       have nc : (x.toNat == 95) = false := by simp; omega
       have id : decide ((48 : Int) ≤ ((x.toNat : Nat) : Int)) = true := by simp; omega
       have nd : decide (48 ≤ x.toNat) = true := by simp; omega
       have ie : decide (((x.toNat : Nat) : Int) ≤ 57) = false := by simp; omega
       have ne : decide (x.toNat ≤ 57) = false := by simp; omega
       have hin : La.inName x.toNat := by unfold La.inName; omega
       clear hc
       go_wp2_with fail
       go_roundw
       case rel => exact ⟨k + 1, by omega, by go_num, HNX.out hin, HB.out⟩
       case measure => simp [intOf]; omega
     · have ia : decide ((97 : Int) ≤ ((x.toNat : Nat) : Int)) = true := by simp; omega
       have na : decide (97 ≤ x.toNat) = true := by simp; omega
       have ib : decide (((x.toNat : Nat) : Int) ≤ 122) = false := by simp; omega
       have nb : decide (x.toNat ≤ 122) = false := by simp; omega
       have ic : (((x.toNat : Nat) : Int) == 95) = false := by simp; omega
       have nc : (x.toNat == 95) = false := by simp; omega
       have id : decide ((48 : Int) ≤ ((x.toNat : Nat) : Int)) = true := by simp; omega
       have nd : decide (48 ≤ x.toNat) = true := by simp; omega
       have ie : decide (((x.toNat : Nat) : Int) ≤ 57) = false := by simp; omega
       have ne : decide (x.toNat ≤ 57) = false := by simp; omega
       have hrf := HN.out (by unfold La.inName; omega)
       clear hc
       go_wp2_with fail
       go_ret
       rw [hrf]
       exact ⟨rfl, HB.out⟩
   · obtain rfl : k = s.size := by omega
     have hrt := HALL.out (fun j h => hall j h h)
     clear hall
     go_wp2_with fail
     go_ret
     rw [hrt]
     exact ⟨rfl, HB.out⟩
end Go.Proofs.YtliobahnekohmaaGreat
/-
  Labels: what the reference Right comes to.
-/
namespace Go.Proofs.YtliobahnekohmaaGreat
open Go.RowKit
variable {P : Program} {ops : Array Oper}
theorem PickOk.skip {S : World → Prop} {K : Act → Prop} {i : Nat} {r : List Nat} {a : Act} {o : Oper} {d : Option Tmp} (ho : ops[i]? = some o) (hd : o.dst = d) (hw : Region.wanted o (yielded ops a.tmps) = false)
 (h : PickOk P ops S K r (a.put d undef)) : PickOk P ops S K (i :: r) a := by
 subst hd
 exact ⟨o, undef, ho, .inr ⟨hw, rfl⟩, h⟩
set_option maxRecDepth 100000 in
set_option maxHeartbeats 2000000 in
theorem rRight_any (A : Option Addr) (n c : Nat) (hn : n ≤ maxLen) (f : Nat → Lab) (hs : ∀ i, i < n → (f i).1.size ≤ maxLen ∧ (f i).2.size ≤ maxLen) (w : World) (hA : LabRow w A n f) :
 Calls Tryz.prog 38 #[.slice A n c] w fun e w' => e = .returned (.bool (La.right f n)) ∧ Below w.heap.size w w' := by
 unfold maxLen at hn
 have HA := Lib.hid hA; have HSZ := Lib.hid hs; clear hA hs
 by_cases hn1 : n < 1
 · have d1 : decide ((n : Int) < 1) = true := by simp; omega
   have hr : La.right f n = false := by unfold La.right; rw [decide_eq_false (by omega), Bool.false_and]
   rw [hr]; clear hr
   go_enter Tryz.func38, Tryz.ntmps38
   go_wp2_with fail
   go_ret
   exact ⟨rfl, Below.refl _ _⟩
 have d1 : decide ((n : Int) < 1) = false := by simp; omega
 by_cases hn6 : 6 < n
 · have d2 : decide ((6 : Int) < (n : Int)) = true := by simp; omega
   have hr : La.right f n = false := by unfold La.right; rw [decide_eq_false (by omega), Bool.false_and]
   rw [hr]; clear hr
   go_enter Tryz.func38, Tryz.ntmps38
   go_wp2_with fail
   go_ret
   exact ⟨rfl, Below.refl _ _⟩
 have d2 : decide ((6 : Int) < (n : Int)) = false := by simp; omega
 have hno0 : ∀ k, k < n → La.okAt f k = false → La.right f n = false := fun k hk h => La.right_no f n k hk h
 have hyes0 : (List.range n).all (La.okAt f) = true → La.right f n = true := fun h => La.right_yes f n (by omega) (by omega) h
 generalize La.right f n = r at *
 have HN0 := Lib.hid hno0; have HY0 := Lib.hid hyes0; clear hno0 hyes0
 go_enter Tryz.func38, Tryz.ntmps38
 go_wp2_with fail
 go_loopw [3] (fun i wr => ∃ k : Nat, k ≤ n ∧ i = .int .i64 k ∧ (List.range k).all (La.okAt f) = true ∧ Below w.heap.size w wr) (fun i _ => n - (intOf i).toNat)
 case atStart => exact ⟨0, by omega, rfl, rfl, Below.refl _ _⟩
 case round =>
  obtain ⟨k, hk, rfl, hall, hb⟩ := hrel
  have HB := Lib.hid hb; clear hb
  by_cases hlt : k < n
  · obtain ⟨ad, rfl, c0, c1⟩ := HA.out.at_ HB.out hlt
    have hsz := HSZ.out k hlt
    have hno := fun h => HN0.out k hlt h
    have hyes : La.okAt f k = true → (List.range (k + 1)).all (La.okAt f) = true := fun h => by rw [La.range_all_succ, hall, h]; rfl
    have hat : La.okAt f k = ((La.okName (f k).1 && La.okValue (f k).2) && (decide (k = 0) || La.less (f (k - 1)).1 (f k).1)) := rfl
    have hnm := fun W => rName_any (f k).1 hsz.1 W
    have hvl := fun W => rValue_any (f k).2 hsz.2 W
    have hah : ∀ j, k = j + 1 → ∀ W, Calls Tryz.prog 39 #[.string (f (k - 1)).1, .string (f k).1] W fun e w' => e = .returned (.bool (La.less (f (k - 1)).1 (f k).1)) ∧ Below W.heap.size W w' := fun j hj W => rAhead_any _ _ (HSZ.out (k - 1) (by omega)).1 hsz.1 W
    have hcp : ∀ j, k = j + 1 → ∀ U, Below wr.heap.size wr U → U.cell? (ad.add (j * 2)) = some (.string (f (k - 1)).1) := fun j hj U hU => by
     obtain ⟨ad2, e, x0, _⟩ := HA.out.at_ (i := j) HB.out (by omega)
     cases e
     rw [show k - 1 = j from by omega]
     exact (hU.cell (block_lt_of_cell x0)).trans x0
    have hc0 : ∀ U, Below wr.heap.size wr U → U.cell? (ad.add (k * 2)) = some (.string (f k).1) := fun U hU => (hU.cell (block_lt_of_cell c0)).trans c0
    have hc1 : ∀ U, Below wr.heap.size wr U → U.cell? ⟨(ad.add (k * 2)).block, (ad.add (k * 2)).off + 1, none⟩ = some (.string (f k).2) := fun U hU => (hU.cell (p := ⟨(ad.add (k * 2)).block, (ad.add (k * 2)).off + 1, none⟩) (block_lt_of_cell c1)).trans c1
    have HNO := Lib.hid hno; have HYES := Lib.hid hyes; clear hno hyes hall c0 c1
    generalize La.okAt f k = oa at *
    generalize La.okName (f k).1 = bN at *
    generalize La.okValue (f k).2 = bV at *
    generalize La.less (f (k - 1)).1 (f k).1 = bA at *
    generalize (f (k - 1)).1 = p at *
    generalize (f k).1 = x at *
    generalize (f k).2 = y at *
    have HN := Lib.hid hnm; have HV := Lib.hid hvl; have HC0 := Lib.hid hc0; have HC1 := Lib.hid hc1; have HAH := Lib.hid hah; have HCPJ := Lib.hid hcp
    clear hnm hvl hc0 hc1 hah hcp hsz
    have i1 : (k : Int) < (n : Int) := by omega
    have i0 : (0 : Int) ≤ (k : Int) := by omega
    go_wp2_with fail
    cases bN
    · rw [Bool.false_and, Bool.false_and] at hat
      refine plain_held (fun U => Below wr.heap.size wr U) (by kernel_rfl) ?_
      have hbd : Below wr.heap.size wr wr.drew := Below.drew (Below.refl _ _)
      generalize wr.drew = wd at *
      have HBD := Lib.hid hbd; clear hbd
      refine wpAnyH_pick (by kernel_rfl) Only.panic (w := wd) HBD.out [0, 1, 2, 3, 4] 30 _ _ (by kernel_rfl) ?_
      refine PickOk.value (d := (some 18)) (v := .slice (some ad) n c) rfl rfl (by kernel_rfl) (fun U hU => (by go_simp)) ?_
      refine PickOk.value (d := (some 19)) (v := .int .i64 k) rfl rfl (by kernel_rfl) (fun U hU => (by go_simp)) ?_
      refine PickOk.value (d := (some 20)) (v := .pointer (some (ad.add (k * 2)))) rfl rfl (by kernel_rfl) (fun U hU => (by go_simp)) ?_
      refine PickOk.value (d := (some 21)) (v := .pointer (some (ad.add (k * 2)))) rfl rfl (by kernel_rfl) (fun U hU => (by go_simp)) ?_
      refine PickOk.value (d := (some 22)) (v := .string x) rfl rfl (by kernel_rfl) (fun U hU => (by have := HC0.out U hU; go_simp)) ?_
      simp only [PickOk, Act.put, List.setIfInBounds_toArray, List.set_cons_zero, List.set_cons_succ]
      refine wpAnyH_one (i := 5) (by kernel_rfl) rfl (by kernel_rfl) ?_
      intro K hK
      unfold Oper.wp
      go_simp
      refine (HN.out _).mono ?_; rintro e w4 ⟨rfl, hw4⟩
      have HB4 := Lib.hid (below_step HBD.out hw4); clear hw4
      refine hK _ _ HB4.out (fun _ => ?_)
      clear hK K
      refine wpAnyH_pick (by kernel_rfl) Only.panic (w := w4) HB4.out [6, 7, 8, 9, 10, 11, 12, 13, 14, 15, 16, 17, 18, 19, 20, 21, 22, 23, 24, 25, 26, 27, 28, 29, 30, 31, 32, 33, 34] 0 _ _ (by kernel_rfl) ?_
      refine PickOk.value (d := (some 24)) (v := .bool true) rfl rfl (by kernel_rfl) (fun U hU => (by go_simp)) ?_
      refine PickOk.value (d := (some 25)) (v := .bool true) rfl rfl (by kernel_rfl) (fun U hU => (by go_simp)) ?_
      refine PickOk.skip (d := (some 26)) rfl rfl (by kernel_rfl) ?_
      refine PickOk.skip (d := (some 27)) rfl rfl (by kernel_rfl) ?_
      refine PickOk.skip (d := (some 28)) rfl rfl (by kernel_rfl) ?_
      refine PickOk.skip (d := (some 29)) rfl rfl (by kernel_rfl) ?_
      refine PickOk.skip (d := (some 30)) rfl rfl (by kernel_rfl) ?_
      refine PickOk.skip (d := (some 31)) rfl rfl (by kernel_rfl) ?_
      refine PickOk.skip (d := (some 32)) rfl rfl (by kernel_rfl) ?_
      refine PickOk.value (d := (some 33)) (v := .bool true) rfl rfl (by kernel_rfl) (fun U hU => (by go_simp)) ?_
      refine PickOk.value (d := (some 34)) (v := .bool true) rfl rfl (by kernel_rfl) (fun U hU => (by go_simp)) ?_
      refine PickOk.skip (d := (some 35)) rfl rfl (by kernel_rfl) ?_
      refine PickOk.skip (d := (some 36)) rfl rfl (by kernel_rfl) ?_
      refine PickOk.skip (d := (some 37)) rfl rfl (by kernel_rfl) ?_
      refine PickOk.skip (d := (some 38)) rfl rfl (by kernel_rfl) ?_
      refine PickOk.skip (d := (some 39)) rfl rfl (by kernel_rfl) ?_
      refine PickOk.skip (d := (some 40)) rfl rfl (by kernel_rfl) ?_
      refine PickOk.skip (d := (some 41)) rfl rfl (by kernel_rfl) ?_
      refine PickOk.skip (d := (some 42)) rfl rfl (by kernel_rfl) ?_
      refine PickOk.skip (d := (some 43)) rfl rfl (by kernel_rfl) ?_
      refine PickOk.skip (d := (some 44)) rfl rfl (by kernel_rfl) ?_
      refine PickOk.skip (d := (some 45)) rfl rfl (by kernel_rfl) ?_
      refine PickOk.skip (d := (some 46)) rfl rfl (by kernel_rfl) ?_
      refine PickOk.skip (d := (some 47)) rfl rfl (by kernel_rfl) ?_
      refine PickOk.skip (d := (some 48)) rfl rfl (by kernel_rfl) ?_
      refine PickOk.skip (d := (some 49)) rfl rfl (by kernel_rfl) ?_
      refine PickOk.skip (d := (some 50)) rfl rfl (by kernel_rfl) ?_
      refine PickOk.skip (d := (some 51)) rfl rfl (by kernel_rfl) ?_
      refine PickOk.value (d := (some 52)) (v := .bool true) rfl rfl (by kernel_rfl) (fun U hU => (by go_simp)) ?_
      simp only [PickOk, Act.put, List.setIfInBounds_toArray, List.set_cons_zero, List.set_cons_succ]
      refine wpAnyH_done (by kernel_rfl) ?_ _
      refine Only.mk_ ?_
      go_wp2_with fail
      go_ret
      rw [HNO.out hat]
      exact ⟨rfl, below_step HB.out HB4.out⟩
    cases bV
    · rw [Bool.and_false, Bool.false_and] at hat
      refine plain_held (fun U => Below wr.heap.size wr U) (by kernel_rfl) ?_
      have hbd : Below wr.heap.size wr wr.drew := Below.drew (Below.refl _ _)
      generalize wr.drew = wd at *
      have HBD := Lib.hid hbd; clear hbd
      refine wpAnyH_pick (by kernel_rfl) Only.panic (w := wd) HBD.out [0, 1, 2, 3, 4] 30 _ _ (by kernel_rfl) ?_
      refine PickOk.value (d := (some 18)) (v := .slice (some ad) n c) rfl rfl (by kernel_rfl) (fun U hU => (by go_simp)) ?_
      refine PickOk.value (d := (some 19)) (v := .int .i64 k) rfl rfl (by kernel_rfl) (fun U hU => (by go_simp)) ?_
      refine PickOk.value (d := (some 20)) (v := .pointer (some (ad.add (k * 2)))) rfl rfl (by kernel_rfl) (fun U hU => (by go_simp)) ?_
      refine PickOk.value (d := (some 21)) (v := .pointer (some (ad.add (k * 2)))) rfl rfl (by kernel_rfl) (fun U hU => (by go_simp)) ?_
      refine PickOk.value (d := (some 22)) (v := .string x) rfl rfl (by kernel_rfl) (fun U hU => (by have := HC0.out U hU; go_simp)) ?_
      simp only [PickOk, Act.put, List.setIfInBounds_toArray, List.set_cons_zero, List.set_cons_succ]
      refine wpAnyH_one (i := 5) (by kernel_rfl) rfl (by kernel_rfl) ?_
      intro K hK
      unfold Oper.wp
      go_simp
      refine (HN.out _).mono ?_; rintro e w4 ⟨rfl, hw4⟩
      have HB4 := Lib.hid (below_step HBD.out hw4); clear hw4
      refine hK _ _ HB4.out (fun _ => ?_)
      clear hK K
      refine wpAnyH_pick (by kernel_rfl) Only.panic (w := w4) HB4.out [6, 7, 8, 9, 10, 11, 12] 22 _ _ (by kernel_rfl) ?_
      refine PickOk.value (d := (some 24)) (v := .bool false) rfl rfl (by kernel_rfl) (fun U hU => (by go_simp)) ?_
      refine PickOk.value (d := (some 25)) (v := .bool false) rfl rfl (by kernel_rfl) (fun U hU => (by go_simp)) ?_
      refine PickOk.value (d := (some 26)) (v := .slice (some ad) n c) rfl rfl (by kernel_rfl) (fun U hU => (by go_simp)) ?_
      refine PickOk.value (d := (some 27)) (v := .int .i64 k) rfl rfl (by kernel_rfl) (fun U hU => (by go_simp)) ?_
      refine PickOk.value (d := (some 28)) (v := .pointer (some (ad.add (k * 2)))) rfl rfl (by kernel_rfl) (fun U hU => (by go_simp)) ?_
      refine PickOk.value (d := (some 29)) (v := .pointer (some ⟨(ad.add (k * 2)).block, (ad.add (k * 2)).off + 1, none⟩)) rfl rfl (by kernel_rfl) (fun U hU => (by go_simp)) ?_
      refine PickOk.value (d := (some 30)) (v := .string y) rfl rfl (by kernel_rfl) (fun U hU => (by have := HC1.out U hU; go_simp)) ?_
      simp only [PickOk, Act.put, List.setIfInBounds_toArray, List.set_cons_zero, List.set_cons_succ]
      refine wpAnyH_one (i := 13) (by kernel_rfl) rfl (by kernel_rfl) ?_
      intro K hK
      unfold Oper.wp
      go_simp
      refine (HV.out _).mono ?_; rintro e w5 ⟨rfl, hw5⟩
      have HB5 := Lib.hid (below_step HB4.out hw5); clear hw5
      refine hK _ _ HB5.out (fun _ => ?_)
      clear hK K
      refine wpAnyH_pick (by kernel_rfl) Only.panic (w := w5) HB5.out [14, 15, 16, 17, 18, 19, 20, 21, 22, 23, 24, 25, 26, 27, 28, 29, 30, 31, 32, 33, 34] 0 _ _ (by kernel_rfl) ?_
      refine PickOk.value (d := (some 32)) (v := .bool true) rfl rfl (by kernel_rfl) (fun U hU => (by go_simp)) ?_
      refine PickOk.value (d := (some 33)) (v := .bool true) rfl rfl (by kernel_rfl) (fun U hU => (by go_simp)) ?_
      refine PickOk.value (d := (some 34)) (v := .bool true) rfl rfl (by kernel_rfl) (fun U hU => (by go_simp)) ?_
      refine PickOk.skip (d := (some 35)) rfl rfl (by kernel_rfl) ?_
      refine PickOk.skip (d := (some 36)) rfl rfl (by kernel_rfl) ?_
      refine PickOk.skip (d := (some 37)) rfl rfl (by kernel_rfl) ?_
      refine PickOk.skip (d := (some 38)) rfl rfl (by kernel_rfl) ?_
      refine PickOk.skip (d := (some 39)) rfl rfl (by kernel_rfl) ?_
      refine PickOk.skip (d := (some 40)) rfl rfl (by kernel_rfl) ?_
      refine PickOk.skip (d := (some 41)) rfl rfl (by kernel_rfl) ?_
      refine PickOk.skip (d := (some 42)) rfl rfl (by kernel_rfl) ?_
      refine PickOk.skip (d := (some 43)) rfl rfl (by kernel_rfl) ?_
      refine PickOk.skip (d := (some 44)) rfl rfl (by kernel_rfl) ?_
      refine PickOk.skip (d := (some 45)) rfl rfl (by kernel_rfl) ?_
      refine PickOk.skip (d := (some 46)) rfl rfl (by kernel_rfl) ?_
      refine PickOk.skip (d := (some 47)) rfl rfl (by kernel_rfl) ?_
      refine PickOk.skip (d := (some 48)) rfl rfl (by kernel_rfl) ?_
      refine PickOk.skip (d := (some 49)) rfl rfl (by kernel_rfl) ?_
      refine PickOk.skip (d := (some 50)) rfl rfl (by kernel_rfl) ?_
      refine PickOk.skip (d := (some 51)) rfl rfl (by kernel_rfl) ?_
      refine PickOk.value (d := (some 52)) (v := .bool true) rfl rfl (by kernel_rfl) (fun U hU => (by go_simp)) ?_
      simp only [PickOk, Act.put, List.setIfInBounds_toArray, List.set_cons_zero, List.set_cons_succ]
      refine wpAnyH_done (by kernel_rfl) ?_ _
      refine Only.mk_ ?_
      go_wp2_with fail
      go_ret
      rw [HNO.out hat]
      exact ⟨rfl, below_step HB.out HB5.out⟩
    rw [Bool.and_self, Bool.true_and] at hat
    rcases Nat.eq_zero_or_pos k with hk0 | hkp
    · rw [decide_eq_true hk0, Bool.true_or] at hat
      have g1 : decide ((0 : Int) < (k : Int)) = false := by simp; omega
      have g2 : decide (0 < k) = false := by simp; omega
      have HK0 := Lib.hid hk0; clear hk0
      refine plain_held (fun U => Below wr.heap.size wr U) (by kernel_rfl) ?_
      have hbd : Below wr.heap.size wr wr.drew := Below.drew (Below.refl _ _)
      generalize wr.drew = wd at *
      have HBD := Lib.hid hbd; clear hbd
      refine wpAnyH_pick (by kernel_rfl) Only.panic (w := wd) HBD.out [0, 1, 2, 3, 4] 30 _ _ (by kernel_rfl) ?_
      refine PickOk.value (d := (some 18)) (v := .slice (some ad) n c) rfl rfl (by kernel_rfl) (fun U hU => (by go_simp)) ?_
      refine PickOk.value (d := (some 19)) (v := .int .i64 k) rfl rfl (by kernel_rfl) (fun U hU => (by go_simp)) ?_
      refine PickOk.value (d := (some 20)) (v := .pointer (some (ad.add (k * 2)))) rfl rfl (by kernel_rfl) (fun U hU => (by go_simp)) ?_
      refine PickOk.value (d := (some 21)) (v := .pointer (some (ad.add (k * 2)))) rfl rfl (by kernel_rfl) (fun U hU => (by go_simp)) ?_
      refine PickOk.value (d := (some 22)) (v := .string x) rfl rfl (by kernel_rfl) (fun U hU => (by have := HC0.out U hU; go_simp)) ?_
      simp only [PickOk, Act.put, List.setIfInBounds_toArray, List.set_cons_zero, List.set_cons_succ]
      refine wpAnyH_one (i := 5) (by kernel_rfl) rfl (by kernel_rfl) ?_
      intro K hK
      unfold Oper.wp
      go_simp
      refine (HN.out _).mono ?_; rintro e w4 ⟨rfl, hw4⟩
      have HB4 := Lib.hid (below_step HBD.out hw4); clear hw4
      refine hK _ _ HB4.out (fun _ => ?_)
      clear hK K
      refine wpAnyH_pick (by kernel_rfl) Only.panic (w := w4) HB4.out [6, 7, 8, 9, 10, 11, 12] 22 _ _ (by kernel_rfl) ?_
      refine PickOk.value (d := (some 24)) (v := .bool false) rfl rfl (by kernel_rfl) (fun U hU => (by go_simp)) ?_
      refine PickOk.value (d := (some 25)) (v := .bool false) rfl rfl (by kernel_rfl) (fun U hU => (by go_simp)) ?_
      refine PickOk.value (d := (some 26)) (v := .slice (some ad) n c) rfl rfl (by kernel_rfl) (fun U hU => (by go_simp)) ?_
      refine PickOk.value (d := (some 27)) (v := .int .i64 k) rfl rfl (by kernel_rfl) (fun U hU => (by go_simp)) ?_
      refine PickOk.value (d := (some 28)) (v := .pointer (some (ad.add (k * 2)))) rfl rfl (by kernel_rfl) (fun U hU => (by go_simp)) ?_
      refine PickOk.value (d := (some 29)) (v := .pointer (some ⟨(ad.add (k * 2)).block, (ad.add (k * 2)).off + 1, none⟩)) rfl rfl (by kernel_rfl) (fun U hU => (by go_simp)) ?_
      refine PickOk.value (d := (some 30)) (v := .string y) rfl rfl (by kernel_rfl) (fun U hU => (by have := HC1.out U hU; go_simp)) ?_
      simp only [PickOk, Act.put, List.setIfInBounds_toArray, List.set_cons_zero, List.set_cons_succ]
      refine wpAnyH_one (i := 13) (by kernel_rfl) rfl (by kernel_rfl) ?_
      intro K hK
      unfold Oper.wp
      go_simp
      refine (HV.out _).mono ?_; rintro e w5 ⟨rfl, hw5⟩
      have HB5 := Lib.hid (below_step HB4.out hw5); clear hw5
      refine hK _ _ HB5.out (fun _ => ?_)
      clear hK K
      refine wpAnyH_pick (by kernel_rfl) Only.panic (w := w5) HB5.out [14, 15, 16, 17, 18, 19, 20, 21, 22, 23, 24, 25, 26, 27, 28, 29, 30, 31, 32, 33, 34] 0 _ _ (by kernel_rfl) ?_
      refine PickOk.value (d := (some 32)) (v := .bool false) rfl rfl (by kernel_rfl) (fun U hU => (by go_simp)) ?_
      refine PickOk.value (d := (some 33)) (v := .bool false) rfl rfl (by kernel_rfl) (fun U hU => (by go_simp)) ?_
      refine PickOk.value (d := (some 34)) (v := .bool false) rfl rfl (by kernel_rfl) (fun U hU => (by go_simp)) ?_
      refine PickOk.value (d := (some 35)) (v := .int .i64 k) rfl rfl (by kernel_rfl) (fun U hU => (by go_simp)) ?_
      refine PickOk.value (d := (some 36)) (v := .bool false) rfl rfl (by kernel_rfl) (fun U hU => (by go_simp)) ?_
      refine PickOk.value (d := (some 37)) (v := .bool false) rfl rfl (by kernel_rfl) (fun U hU => (by go_simp)) ?_
      refine PickOk.skip (d := (some 38)) rfl rfl (by kernel_rfl) ?_
      refine PickOk.skip (d := (some 39)) rfl rfl (by kernel_rfl) ?_
      refine PickOk.skip (d := (some 40)) rfl rfl (by kernel_rfl) ?_
      refine PickOk.skip (d := (some 41)) rfl rfl (by kernel_rfl) ?_
      refine PickOk.skip (d := (some 42)) rfl rfl (by kernel_rfl) ?_
      refine PickOk.skip (d := (some 43)) rfl rfl (by kernel_rfl) ?_
      refine PickOk.skip (d := (some 44)) rfl rfl (by kernel_rfl) ?_
      refine PickOk.skip (d := (some 45)) rfl rfl (by kernel_rfl) ?_
      refine PickOk.skip (d := (some 46)) rfl rfl (by kernel_rfl) ?_
      refine PickOk.skip (d := (some 47)) rfl rfl (by kernel_rfl) ?_
      refine PickOk.skip (d := (some 48)) rfl rfl (by kernel_rfl) ?_
      refine PickOk.skip (d := (some 49)) rfl rfl (by kernel_rfl) ?_
      refine PickOk.skip (d := (some 50)) rfl rfl (by kernel_rfl) ?_
      refine PickOk.value (d := (some 51)) (v := .bool false) rfl rfl (by kernel_rfl) (fun U hU => (by go_simp)) ?_
      refine PickOk.value (d := (some 52)) (v := .bool false) rfl rfl (by kernel_rfl) (fun U hU => (by go_simp)) ?_
      simp only [PickOk, Act.put, List.setIfInBounds_toArray, List.set_cons_zero, List.set_cons_succ]
      refine wpAnyH_done (by kernel_rfl) ?_ _
      refine Only.mk_ ?_
      go_wp2_with fail
      go_roundw
      case rel => exact ⟨k + 1, by omega, by go_num, HYES.out hat, below_step HB.out HB5.out⟩
      case measure => simp [intOf]; omega
    · rw [decide_eq_false (by omega), Bool.false_or] at hat
      have g1 : decide ((0 : Int) < (k : Int)) = true := by simp; omega
      have g2 : decide (0 < k) = true := by simp; omega
      obtain ⟨j, hj⟩ : ∃ j, k = j + 1 := ⟨k - 1, by omega⟩
      have HA2 := Lib.hid (HAH.out j hj); have HCP := Lib.hid (HCPJ.out j hj)
      have hjk : (k : Int) - 1 = (j : Int) := by omega
      have hjw : wrap64 ((k : Int) - 1) = (j : Int) := by simp only [wrap64]; omega
      have hjv : IntKind.i64.wrap (j : Int) = (j : Int) := by rw [IntKind.wrap_i64]; omega
      have HJV := Lib.hid hjv; clear hjv
      have i3 : (j : Int) < (n : Int) := by omega
      have i4 : (0 : Int) ≤ (j : Int) := by omega
      clear hj HAH HCPJ
      cases bA
      · refine plain_held (fun U => Below wr.heap.size wr U) (by kernel_rfl) ?_
        have hbd : Below wr.heap.size wr wr.drew := Below.drew (Below.refl _ _)
        generalize wr.drew = wd at *
        have HBD := Lib.hid hbd; clear hbd
        refine wpAnyH_pick (by kernel_rfl) Only.panic (w := wd) HBD.out [0, 1, 2, 3, 4] 30 _ _ (by kernel_rfl) ?_
        refine PickOk.value (d := (some 18)) (v := .slice (some ad) n c) rfl rfl (by kernel_rfl) (fun U hU => (by go_simp)) ?_
        refine PickOk.value (d := (some 19)) (v := .int .i64 k) rfl rfl (by kernel_rfl) (fun U hU => (by go_simp)) ?_
        refine PickOk.value (d := (some 20)) (v := .pointer (some (ad.add (k * 2)))) rfl rfl (by kernel_rfl) (fun U hU => (by go_simp)) ?_
        refine PickOk.value (d := (some 21)) (v := .pointer (some (ad.add (k * 2)))) rfl rfl (by kernel_rfl) (fun U hU => (by go_simp)) ?_
        refine PickOk.value (d := (some 22)) (v := .string x) rfl rfl (by kernel_rfl) (fun U hU => (by have := HC0.out U hU; go_simp)) ?_
        simp only [PickOk, Act.put, List.setIfInBounds_toArray, List.set_cons_zero, List.set_cons_succ]
        refine wpAnyH_one (i := 5) (by kernel_rfl) rfl (by kernel_rfl) ?_
        intro K hK
        unfold Oper.wp
        go_simp
        refine (HN.out _).mono ?_; rintro e w4 ⟨rfl, hw4⟩
        have HB4 := Lib.hid (below_step HBD.out hw4); clear hw4
        refine hK _ _ HB4.out (fun _ => ?_)
        clear hK K
        refine wpAnyH_pick (by kernel_rfl) Only.panic (w := w4) HB4.out [6, 7, 8, 9, 10, 11, 12] 22 _ _ (by kernel_rfl) ?_
        refine PickOk.value (d := (some 24)) (v := .bool false) rfl rfl (by kernel_rfl) (fun U hU => (by go_simp)) ?_
        refine PickOk.value (d := (some 25)) (v := .bool false) rfl rfl (by kernel_rfl) (fun U hU => (by go_simp)) ?_
        refine PickOk.value (d := (some 26)) (v := .slice (some ad) n c) rfl rfl (by kernel_rfl) (fun U hU => (by go_simp)) ?_
        refine PickOk.value (d := (some 27)) (v := .int .i64 k) rfl rfl (by kernel_rfl) (fun U hU => (by go_simp)) ?_
        refine PickOk.value (d := (some 28)) (v := .pointer (some (ad.add (k * 2)))) rfl rfl (by kernel_rfl) (fun U hU => (by go_simp)) ?_
        refine PickOk.value (d := (some 29)) (v := .pointer (some ⟨(ad.add (k * 2)).block, (ad.add (k * 2)).off + 1, none⟩)) rfl rfl (by kernel_rfl) (fun U hU => (by go_simp)) ?_
        refine PickOk.value (d := (some 30)) (v := .string y) rfl rfl (by kernel_rfl) (fun U hU => (by have := HC1.out U hU; go_simp)) ?_
        simp only [PickOk, Act.put, List.setIfInBounds_toArray, List.set_cons_zero, List.set_cons_succ]
        refine wpAnyH_one (i := 13) (by kernel_rfl) rfl (by kernel_rfl) ?_
        intro K hK
        unfold Oper.wp
        go_simp
        refine (HV.out _).mono ?_; rintro e w5 ⟨rfl, hw5⟩
        have HB5 := Lib.hid (below_step HB4.out hw5); clear hw5
        refine hK _ _ HB5.out (fun _ => ?_)
        clear hK K
        refine wpAnyH_pick (by kernel_rfl) Only.panic (w := w5) HB5.out [14, 15, 16, 17, 18, 19, 20, 21, 22, 23, 24, 25, 26, 27, 28, 29, 30] 4 _ _ (by kernel_rfl) ?_
        refine PickOk.value (d := (some 32)) (v := .bool false) rfl rfl (by kernel_rfl) (fun U hU => (by go_simp)) ?_
        refine PickOk.value (d := (some 33)) (v := .bool false) rfl rfl (by kernel_rfl) (fun U hU => (by go_simp)) ?_
        refine PickOk.value (d := (some 34)) (v := .bool false) rfl rfl (by kernel_rfl) (fun U hU => (by go_simp)) ?_
        refine PickOk.value (d := (some 35)) (v := .int .i64 k) rfl rfl (by kernel_rfl) (fun U hU => (by go_simp)) ?_
        refine PickOk.value (d := (some 36)) (v := .bool true) rfl rfl (by kernel_rfl) (fun U hU => (by go_simp)) ?_
        refine PickOk.value (d := (some 37)) (v := .bool true) rfl rfl (by kernel_rfl) (fun U hU => (by go_simp)) ?_
        refine PickOk.value (d := (some 38)) (v := .slice (some ad) n c) rfl rfl (by kernel_rfl) (fun U hU => (by go_simp)) ?_
        refine PickOk.value (d := (some 39)) (v := .int .i64 k) rfl rfl (by kernel_rfl) (fun U hU => (by go_simp)) ?_
        refine PickOk.value (d := (some 40)) (v := .int .i64 j) rfl rfl (by kernel_rfl) (fun U hU => (by go_simp; exact HJV.out)) ?_
        refine PickOk.value (d := (some 41)) (v := .pointer (some (ad.add (j * 2)))) rfl rfl (by kernel_rfl) (fun U hU => (by go_simp)) ?_
        refine PickOk.value (d := (some 42)) (v := .pointer (some (ad.add (j * 2)))) rfl rfl (by kernel_rfl) (fun U hU => (by go_simp)) ?_
        refine PickOk.value (d := (some 43)) (v := .string p) rfl rfl (by kernel_rfl) (fun U hU => (by have := HCP.out U hU; go_simp)) ?_
        refine PickOk.value (d := (some 44)) (v := .slice (some ad) n c) rfl rfl (by kernel_rfl) (fun U hU => (by go_simp)) ?_
        refine PickOk.value (d := (some 45)) (v := .int .i64 k) rfl rfl (by kernel_rfl) (fun U hU => (by go_simp)) ?_
        refine PickOk.value (d := (some 46)) (v := .pointer (some (ad.add (k * 2)))) rfl rfl (by kernel_rfl) (fun U hU => (by go_simp)) ?_
        refine PickOk.value (d := (some 47)) (v := .pointer (some (ad.add (k * 2)))) rfl rfl (by kernel_rfl) (fun U hU => (by go_simp)) ?_
        refine PickOk.value (d := (some 48)) (v := .string x) rfl rfl (by kernel_rfl) (fun U hU => (by have := HC0.out U hU; go_simp)) ?_
        simp only [PickOk, Act.put, List.setIfInBounds_toArray, List.set_cons_zero, List.set_cons_succ]
        refine wpAnyH_one (i := 31) (by kernel_rfl) rfl (by kernel_rfl) ?_
        intro K hK
        unfold Oper.wp
        go_simp
        refine (HA2.out _).mono ?_; rintro e w6 ⟨rfl, hw6⟩
        have HB6 := Lib.hid (below_step HB5.out hw6); clear hw6
        refine hK _ _ HB6.out (fun _ => ?_)
        clear hK K
        refine wpAnyH_pick (by kernel_rfl) Only.panic (w := w6) HB6.out [32, 33, 34] 0 _ _ (by kernel_rfl) ?_
        refine PickOk.value (d := (some 50)) (v := .bool true) rfl rfl (by kernel_rfl) (fun U hU => (by go_simp)) ?_
        refine PickOk.value (d := (some 51)) (v := .bool true) rfl rfl (by kernel_rfl) (fun U hU => (by go_simp)) ?_
        refine PickOk.value (d := (some 52)) (v := .bool true) rfl rfl (by kernel_rfl) (fun U hU => (by go_simp)) ?_
        simp only [PickOk, Act.put, List.setIfInBounds_toArray, List.set_cons_zero, List.set_cons_succ]
        refine wpAnyH_done (by kernel_rfl) ?_ _
        refine Only.mk_ ?_
        go_wp2_with fail
        go_ret
        rw [HNO.out hat]
        exact ⟨rfl, below_step HB.out HB6.out⟩
      · refine plain_held (fun U => Below wr.heap.size wr U) (by kernel_rfl) ?_
        have hbd : Below wr.heap.size wr wr.drew := Below.drew (Below.refl _ _)
        generalize wr.drew = wd at *
        have HBD := Lib.hid hbd; clear hbd
        refine wpAnyH_pick (by kernel_rfl) Only.panic (w := wd) HBD.out [0, 1, 2, 3, 4] 30 _ _ (by kernel_rfl) ?_
        refine PickOk.value (d := (some 18)) (v := .slice (some ad) n c) rfl rfl (by kernel_rfl) (fun U hU => (by go_simp)) ?_
        refine PickOk.value (d := (some 19)) (v := .int .i64 k) rfl rfl (by kernel_rfl) (fun U hU => (by go_simp)) ?_
        refine PickOk.value (d := (some 20)) (v := .pointer (some (ad.add (k * 2)))) rfl rfl (by kernel_rfl) (fun U hU => (by go_simp)) ?_
        refine PickOk.value (d := (some 21)) (v := .pointer (some (ad.add (k * 2)))) rfl rfl (by kernel_rfl) (fun U hU => (by go_simp)) ?_
        refine PickOk.value (d := (some 22)) (v := .string x) rfl rfl (by kernel_rfl) (fun U hU => (by have := HC0.out U hU; go_simp)) ?_
        simp only [PickOk, Act.put, List.setIfInBounds_toArray, List.set_cons_zero, List.set_cons_succ]
        refine wpAnyH_one (i := 5) (by kernel_rfl) rfl (by kernel_rfl) ?_
        intro K hK
        unfold Oper.wp
        go_simp
        refine (HN.out _).mono ?_; rintro e w4 ⟨rfl, hw4⟩
        have HB4 := Lib.hid (below_step HBD.out hw4); clear hw4
        refine hK _ _ HB4.out (fun _ => ?_)
        clear hK K
        refine wpAnyH_pick (by kernel_rfl) Only.panic (w := w4) HB4.out [6, 7, 8, 9, 10, 11, 12] 22 _ _ (by kernel_rfl) ?_
        refine PickOk.value (d := (some 24)) (v := .bool false) rfl rfl (by kernel_rfl) (fun U hU => (by go_simp)) ?_
        refine PickOk.value (d := (some 25)) (v := .bool false) rfl rfl (by kernel_rfl) (fun U hU => (by go_simp)) ?_
        refine PickOk.value (d := (some 26)) (v := .slice (some ad) n c) rfl rfl (by kernel_rfl) (fun U hU => (by go_simp)) ?_
        refine PickOk.value (d := (some 27)) (v := .int .i64 k) rfl rfl (by kernel_rfl) (fun U hU => (by go_simp)) ?_
        refine PickOk.value (d := (some 28)) (v := .pointer (some (ad.add (k * 2)))) rfl rfl (by kernel_rfl) (fun U hU => (by go_simp)) ?_
        refine PickOk.value (d := (some 29)) (v := .pointer (some ⟨(ad.add (k * 2)).block, (ad.add (k * 2)).off + 1, none⟩)) rfl rfl (by kernel_rfl) (fun U hU => (by go_simp)) ?_
        refine PickOk.value (d := (some 30)) (v := .string y) rfl rfl (by kernel_rfl) (fun U hU => (by have := HC1.out U hU; go_simp)) ?_
        simp only [PickOk, Act.put, List.setIfInBounds_toArray, List.set_cons_zero, List.set_cons_succ]
        refine wpAnyH_one (i := 13) (by kernel_rfl) rfl (by kernel_rfl) ?_
        intro K hK
        unfold Oper.wp
        go_simp
        refine (HV.out _).mono ?_; rintro e w5 ⟨rfl, hw5⟩
        have HB5 := Lib.hid (below_step HB4.out hw5); clear hw5
        refine hK _ _ HB5.out (fun _ => ?_)
        clear hK K
        refine wpAnyH_pick (by kernel_rfl) Only.panic (w := w5) HB5.out [14, 15, 16, 17, 18, 19, 20, 21, 22, 23, 24, 25, 26, 27, 28, 29, 30] 4 _ _ (by kernel_rfl) ?_
        refine PickOk.value (d := (some 32)) (v := .bool false) rfl rfl (by kernel_rfl) (fun U hU => (by go_simp)) ?_
        refine PickOk.value (d := (some 33)) (v := .bool false) rfl rfl (by kernel_rfl) (fun U hU => (by go_simp)) ?_
        refine PickOk.value (d := (some 34)) (v := .bool false) rfl rfl (by kernel_rfl) (fun U hU => (by go_simp)) ?_
        refine PickOk.value (d := (some 35)) (v := .int .i64 k) rfl rfl (by kernel_rfl) (fun U hU => (by go_simp)) ?_
        refine PickOk.value (d := (some 36)) (v := .bool true) rfl rfl (by kernel_rfl) (fun U hU => (by go_simp)) ?_
        refine PickOk.value (d := (some 37)) (v := .bool true) rfl rfl (by kernel_rfl) (fun U hU => (by go_simp)) ?_
        refine PickOk.value (d := (some 38)) (v := .slice (some ad) n c) rfl rfl (by kernel_rfl) (fun U hU => (by go_simp)) ?_
        refine PickOk.value (d := (some 39)) (v := .int .i64 k) rfl rfl (by kernel_rfl) (fun U hU => (by go_simp)) ?_
        refine PickOk.value (d := (some 40)) (v := .int .i64 j) rfl rfl (by kernel_rfl) (fun U hU => (by go_simp; exact HJV.out)) ?_
        refine PickOk.value (d := (some 41)) (v := .pointer (some (ad.add (j * 2)))) rfl rfl (by kernel_rfl) (fun U hU => (by go_simp)) ?_
        refine PickOk.value (d := (some 42)) (v := .pointer (some (ad.add (j * 2)))) rfl rfl (by kernel_rfl) (fun U hU => (by go_simp)) ?_
        refine PickOk.value (d := (some 43)) (v := .string p) rfl rfl (by kernel_rfl) (fun U hU => (by have := HCP.out U hU; go_simp)) ?_
        refine PickOk.value (d := (some 44)) (v := .slice (some ad) n c) rfl rfl (by kernel_rfl) (fun U hU => (by go_simp)) ?_
        refine PickOk.value (d := (some 45)) (v := .int .i64 k) rfl rfl (by kernel_rfl) (fun U hU => (by go_simp)) ?_
        refine PickOk.value (d := (some 46)) (v := .pointer (some (ad.add (k * 2)))) rfl rfl (by kernel_rfl) (fun U hU => (by go_simp)) ?_
        refine PickOk.value (d := (some 47)) (v := .pointer (some (ad.add (k * 2)))) rfl rfl (by kernel_rfl) (fun U hU => (by go_simp)) ?_
        refine PickOk.value (d := (some 48)) (v := .string x) rfl rfl (by kernel_rfl) (fun U hU => (by have := HC0.out U hU; go_simp)) ?_
        simp only [PickOk, Act.put, List.setIfInBounds_toArray, List.set_cons_zero, List.set_cons_succ]
        refine wpAnyH_one (i := 31) (by kernel_rfl) rfl (by kernel_rfl) ?_
        intro K hK
        unfold Oper.wp
        go_simp
        refine (HA2.out _).mono ?_; rintro e w6 ⟨rfl, hw6⟩
        have HB6 := Lib.hid (below_step HB5.out hw6); clear hw6
        refine hK _ _ HB6.out (fun _ => ?_)
        clear hK K
        refine wpAnyH_pick (by kernel_rfl) Only.panic (w := w6) HB6.out [32, 33, 34] 0 _ _ (by kernel_rfl) ?_
        refine PickOk.value (d := (some 50)) (v := .bool false) rfl rfl (by kernel_rfl) (fun U hU => (by go_simp)) ?_
        refine PickOk.value (d := (some 51)) (v := .bool false) rfl rfl (by kernel_rfl) (fun U hU => (by go_simp)) ?_
        refine PickOk.value (d := (some 52)) (v := .bool false) rfl rfl (by kernel_rfl) (fun U hU => (by go_simp)) ?_
        simp only [PickOk, Act.put, List.setIfInBounds_toArray, List.set_cons_zero, List.set_cons_succ]
        refine wpAnyH_done (by kernel_rfl) ?_ _
        refine Only.mk_ ?_
        go_wp2_with fail
        go_roundw
        case rel => exact ⟨k + 1, by omega, by go_num, HYES.out hat, below_step HB.out HB6.out⟩
        case measure => simp [intOf]; omega
  · obtain rfl : k = n := by omega
    have hrt := HY0.out hall
    clear hall
    go_wp2_with fail
    go_ret
    rw [hrt]
    exact ⟨rfl, HB.out⟩
end Go.Proofs.YtliobahnekohmaaGreat
/-
  Whether entries may be, as the document says: the walk.
-/
namespace Go.Proofs.YtliobahnekohmaaGreat
open Go.RowKit
theorem EIn.rright {w : World} {x : EAt} (h : EIn w x) : ∀ W, Below w.heap.size w W → Calls Tryz.prog 38 #[.slice x.A x.e.l.length x.c] W fun e w' => e = .returned (.bool (La.rightL x.e.l)) ∧ Below W.heap.size W w' :=
 fun W hW => rRight_any x.A x.e.l.length x.c (by have := h.len; unfold maxLen; omega) (La.at_ x.e.l) (fun i hi => by have := h.small i hi; unfold maxLen; omega) W (h.later hW).row
theorem EIn.rlongest {w : World} {x : EAt} (h : EIn w x) : ∀ W, Below w.heap.size w W → Calls Tryz.prog 41 #[.slice x.A x.e.l.length x.c] W fun e w' => e = .returned (.int .i64 ((Ix.long x.e.l : Nat) : Int)) ∧ Below W.heap.size W w' :=
 fun W hW => rLongest_any x.A x.e.l.length x.c (by have := h.len; unfold maxLen; omega) (La.at_ x.e.l) (fun i hi => by have := h.small i hi; unfold maxLen; omega) W (h.later hW).row
theorem EIn.rkey {w : World} {x : EAt} (h : EIn w x) (r : La.rightL x.e.l = true) : ∀ W, Below w.heap.size w W → Calls Tryz.prog 40 #[.slice x.A x.e.l.length x.c] W fun e w' => e = .returned (.string (Ix.key x.e.l)) ∧ Below W.heap.size W w' :=
 fun W hW => rKey_any x.A x.e.l.length x.c (by have := (La.right_sizes _ r).1; omega) (La.at_ x.e.l) (La.right_sizes _ r).2 W (h.later hW).row
theorem key_bound {l : List Lab} (r : La.rightL l = true) : (Ix.key l).size ≤ maxLen := by
 have h1 := La.key_length (La.at_ l) l.length (La.right_sizes l r).2
 have h2 := (La.right_sizes l r).1
 unfold Ix.key La.keyB maxLen
 rw [La.size_mk]
 omega
set_option maxRecDepth 100000 in
set_option maxHeartbeats 16000000 in
theorem rValid12_any (A : Option Addr) (n c : Nat) (q : Nat → EAt) (g : Int) (w : World) (h : EntsIn w A n q) :
 Calls Tryz.prog 14 #[.slice A n c, .int .i64 g] w fun e w' => e = .returned (.int .i64 (Ix.valid (entL q n) g)) ∧ Below w.heap.size w w' := by
 have hlen := entL_length q n
 have HA := Lib.hid h
 have hn := h.len
 obtain ⟨V, hV⟩ : ∃ V, V = Ix.valid (entL q n) g := ⟨_, rfl⟩
 rw [← hV]
 have V1 := Lib.hid (fun (hg : Ix.isG g = false) => hV.trans (Ix.valid_gen (L := entL q n) hg)); have V2 := Lib.hid (fun (hm : 20 < n) => hV.trans (Ix.valid_many (L := entL q n) (g := g) (by rw [hlen]; exact hm)))
 have V3 := Lib.hid (fun (i : Nat) (hi : i < n) (h : Ix.okE (entL q n) i (Ix.at_ (entL q n) i) = false) => hV.trans (Ix.valid_at (g := g) (by rw [hlen]; exact hi) h))
 have V4 := Lib.hid (fun (hg : Ix.isG g = true) (hm : n ≤ 20) (hall : ∀ i, i < n → Ix.okE (entL q n) i (Ix.at_ (entL q n) i) = true) (i : Nat) (hi : i < n) (h2 : La.limit g < Ix.long (q i).e.l) => hV.trans (Ix.valid_long hg (by rw [hlen]; exact hm) (fun j hj => hall j (by rw [hlen] at hj; exact hj)) (i := i) (by rw [hlen]; exact hi) (by rw [entL_at q hi]; exact h2)))
 have V5 := Lib.hid (fun (hg : Ix.isG g = true) (hm : n ≤ 20) (hall : ∀ i, i < n → Ix.okE (entL q n) i (Ix.at_ (entL q n) i) = true) (h2 : ∀ i, i < n → Ix.long (q i).e.l ≤ La.limit g) => hV.trans (Ix.valid_ok hg (by rw [hlen]; exact hm) (fun j hj => hall j (by rw [hlen] at hj; exact hj)) (fun j hj => by rw [hlen] at hj; rw [entL_at q hj]; exact h2 j hj)))
 clear hV h hlen
 go_enter Tryz.func14, Tryz.ntmps14
 by_cases hg1 : g < 1
 · have d1 : decide (g < 1) = true := decide_eq_true hg1
   have hv := V1.out (by unfold Ix.isG; exact decide_eq_false (by omega))
   go_wp2_with fail
   go_ret
   exact ⟨by first | (rw [hv]; rfl) | rfl, Below.refl _ _⟩
 · have d1 : decide (g < 1) = false := decide_eq_false hg1
   by_cases hg3 : 3 < g
   · have d2 : decide (3 < g) = true := decide_eq_true hg3
     have hv := V1.out (by unfold Ix.isG; exact decide_eq_false (by omega))
     go_wp2_with fail
     go_ret
     exact ⟨by first | (rw [hv]; rfl) | rfl, Below.refl _ _⟩
   · have d2 : decide (3 < g) = false := decide_eq_false hg3
     have HIG : Hid (Ix.isG g = true) := Lib.hid (by unfold Ix.isG; exact decide_eq_true (by omega))
     clear hg1 hg3
     by_cases h20 : n ≤ 20
     · have d3 : decide ((20 : Int) < (n : Int)) = false := decide_eq_false (by omega)
       have d3n : decide (20 < n) = false := decide_eq_false (by omega)
       go_wp2_with fail
       clear d1 d2 d3 d3n
       go_loopw [5, 6, 7] (fun lo i _ wr => ∃ (k : Nat) (b : Bool), k ≤ n ∧ i = .int .i64 k ∧ (∀ j, j < k → Ix.okE (entL q n) j (Ix.at_ (entL q n) j) = true) ∧ lo = .bool b ∧ (b = true ↔ ∃ j, j < k ∧ La.limit g < Ix.long (q j).e.l) ∧ Below w.heap.size w wr) (fun _ i _ _ => n - (intOf i).toNat)
       case atStart => exact ⟨0, false, by omega, rfl, (fun j hj => absurd hj (by omega)), rfl, ⟨fun h => (by cases h), fun ⟨j, hj, _⟩ => absurd hj (Nat.not_lt_zero j)⟩, Below.refl _ _⟩
       case round =>
        obtain ⟨k, b, hk, rfl, hall, rfl, hlo, hb⟩ := hrel
        have HBL := Lib.hid hb; have HALL := Lib.hid hall; have HLO := Lib.hid hlo
        clear hb hall hlo
        have i0 : (0 : Int) ≤ (k : Int) := by omega
        by_cases hlt : k < n
        · have i1 : (k : Int) < (n : Int) := by omega
          have dd1 : decide ((k : Int) < (n : Int)) = true := decide_eq_true i1
          have hq1 := okE_parts q hlt
          have HNO := Lib.hid (V3.out k hlt)
          have HYES := Lib.hid (fun (h : Ix.okE (entL q n) k (Ix.at_ (entL q n) k) = true) j (hj : j < k + 1) => (by
           rcases Nat.lt_or_ge j k with h3 | h3
           · exact HALL.out j h3
           · rw [show j = k from by omega]; exact h : Ix.okE (entL q n) j (Ix.at_ (entL q n) j) = true))
          have HLT : Hid (b = true → ∃ j, j < k + 1 ∧ La.limit g < Ix.long (q j).e.l) := Lib.hid (fun hbt => by obtain ⟨j, hj, h2⟩ := HLO.out.1 hbt; exact ⟨j, by omega, h2⟩)
          have HLF : Hid (b = false → (decide (La.limit g < Ix.long (q k).e.l) = true ↔ ∃ j, j < k + 1 ∧ La.limit g < Ix.long (q j).e.l)) := Lib.hid (fun hbf => ⟨fun h => ⟨k, by omega, of_decide_eq_true h⟩, fun ⟨j, hj, h2⟩ => by
           rcases Nat.lt_or_ge j k with h3 | h3
           · have := HLO.out.2 ⟨j, h3, h2⟩; rw [hbf] at this; cases this
           · rw [show k = j from by omega]; exact decide_eq_true h2⟩)
          rw [hq1] at HNO HYES
          clear hq1
          obtain ⟨ad, rfl, x0, x1, x2, x3⟩ := HA.out.cells HBL.out hlt
          have hE := (HA.out.each k hlt).later HBL.out
          have HP : Hid (0 < k → ∀ U, Below wr.heap.size wr U → U.cell? (ad.add ((k - 1) * 4)) = some (.slice (q (k - 1)).A (q (k - 1)).e.l.length (q (k - 1)).c) ∧ (Calls Tryz.prog 40 #[.slice (q (k - 1)).A (q (k - 1)).e.l.length (q (k - 1)).c] U fun e w' => e = .returned (.string (Ix.key (q (k - 1)).e.l)) ∧ Below U.heap.size U w') ∧ (Ix.key (q (k - 1)).e.l).size ≤ maxLen) := Lib.hid (fun h0 U hU => by
           have hk1 := HALL.out (k - 1) (by omega)
           rw [okE_parts q (show k - 1 < n by omega), Bool.and_eq_true, Bool.and_eq_true] at hk1
           obtain ⟨ad2, e2, y0, -⟩ := HA.out.cells HBL.out (show k - 1 < n by omega)
           cases e2
           exact ⟨cell_keep y0 hU, ((HA.out.each (k - 1) (by omega)).later HBL.out).rkey hk1.1.1 U hU, key_bound hk1.1.1⟩)
          have HKY : Hid (La.rightL (q k).e.l = true → (∀ U, Below wr.heap.size wr U → Calls Tryz.prog 40 #[.slice (q k).A (q k).e.l.length (q k).c] U fun e w' => e = .returned (.string (Ix.key (q k).e.l)) ∧ Below U.heap.size U w') ∧ (Ix.key (q k).e.l).size ≤ maxLen) := Lib.hid (fun hr => ⟨hE.rkey hr, key_bound hr⟩)
          have HRT := Lib.hid hE.rright
          obtain ⟨w5, hw5⟩ : ∃ w5, w5 = wr.alloc (.cells (entC (q k)) 77) := ⟨_, rfl⟩
          have hb5 : Below wr.heap.size wr w5 := by rw [hw5]; exact (Below.refl _ _).alloc (Nat.le_refl _) _
          have hy5 : w5.heap[wr.heap.size]? = some (.cells (entC (q k)) 77 (0, 0)) := by rw [hw5]; exact heap_alloc_new wr _
          unfold entC at hw5 hy5
          have HB5 := Lib.hid hb5; have HY5 := Lib.hid hy5
          have HLG := Lib.hid (fun U (hU : Below w5.heap.size w5 U) => hE.rlongest U (HB5.out.trans (hU.mono HB5.out.size)))
          have y0 := cell_of_row _ _ 0 _ _ _ hy5
          simp only [List.getElem?_toArray, List.getElem?_cons_zero] at y0
          obtain ⟨eb, heb⟩ : ∃ eb, eb = wr.heap.size := ⟨_, rfl⟩
          rw [← heb] at HY5 y0
          clear hb5 hy5 hE
          go_upto_region 8 with fail
          rw [← hw5, ← heb]
          clear hw5 heb x0 x1 x2 x3
          have HBL' := HBL
          go_wp2_with fail
          refine (HRT.out _ HB5.out).mono ?_; rintro e w6 ⟨rfl, hb6⟩
          have HB6 := Lib.hid hb6
          have hy6 := heap_keep HY5.out hb6
          have y1 := cell_of_row _ _ 1 _ _ _ hy6; have y2 := cell_of_row _ _ 2 _ _ _ hy6; have y3 := cell_of_row _ _ 3 _ _ _ hy6
          simp only [List.getElem?_toArray, List.getElem?_cons_zero, List.getElem?_cons_succ] at y1 y2 y3
          have HBN := Lib.hid (below_step (below_step HBL.out HB5.out) hb6)
          clear hb6 HRT y0 hy6
          unfold Ix.isPlace at HNO HYES
          obtain ⟨rr, hrr⟩ : ∃ rr, rr = La.rightL (q k).e.l := ⟨_, rfl⟩
          rw [← hrr] at HNO HYES HKY ⊢
          clear hrr
          generalize (q k).e.last = la at *
          generalize (q k).e.off = of at *
          generalize (q k).e.len = le at *
          cases rr with
          | false =>
           have hv := HNO.out (by simp)
           go_wp2_with fail
           go_ret
           exact ⟨by first | (rw [hv]; rfl) | rfl, HBN.out⟩
          | true =>
           by_cases c1 : la < 0
           · have z1 : decide (0 ≤ la ∧ la ≤ 1125899906842624) = false := decide_eq_false (by omega)
             rw [z1] at HNO
             have e1 : decide (la < 0) = true := decide_eq_true c1
             clear c1 z1
             have hv := HNO.out (by simp)
             go_wp2_with fail
             go_ret
             exact ⟨by first | (rw [hv]; rfl) | rfl, HBN.out⟩
           · have e1 : decide (la < 0) = false := decide_eq_false c1
             by_cases c2 : 1125899906842624 < la
             · have z1 : decide (0 ≤ la ∧ la ≤ 1125899906842624) = false := decide_eq_false (by omega)
               rw [z1] at HNO
               have e2 : decide (1125899906842624 < la) = true := decide_eq_true c2
               clear c1 c2 z1
               have hv := HNO.out (by simp)
               go_wp2_with fail
               go_ret
               exact ⟨by first | (rw [hv]; rfl) | rfl, HBN.out⟩
             · have e2 : decide (1125899906842624 < la) = false := decide_eq_false c2
               have z1 : decide (0 ≤ la ∧ la ≤ 1125899906842624) = true := decide_eq_true (by omega)
               rw [z1] at HNO HYES
               clear c1 c2 z1
               by_cases c3 : of < 0
               · have z1 : decide (0 ≤ of ∧ of ≤ 1073741824) = false := decide_eq_false (by omega)
                 rw [z1] at HNO
                 have e3 : decide (of < 0) = true := decide_eq_true c3
                 clear c3 z1
                 have hv := HNO.out (by simp)
                 go_wp2_with fail
                 go_ret
                 exact ⟨by first | (rw [hv]; rfl) | rfl, HBN.out⟩
               · have e3 : decide (of < 0) = false := decide_eq_false c3
                 by_cases c4 : 1073741824 < of
                 · have z1 : decide (0 ≤ of ∧ of ≤ 1073741824) = false := decide_eq_false (by omega)
                   rw [z1] at HNO
                   have e4 : decide (1073741824 < of) = true := decide_eq_true c4
                   clear c3 c4 z1
                   have hv := HNO.out (by simp)
                   go_wp2_with fail
                   go_ret
                   exact ⟨by first | (rw [hv]; rfl) | rfl, HBN.out⟩
                 · have e4 : decide (1073741824 < of) = false := decide_eq_false c4
                   have z1 : decide (0 ≤ of ∧ of ≤ 1073741824) = true := decide_eq_true (by omega)
                   rw [z1] at HNO HYES
                   clear c3 c4 z1
                   by_cases c5 : le < 0
                   · have z1 : decide (0 ≤ le ∧ le ≤ 1073741824) = false := decide_eq_false (by omega)
                     rw [z1] at HNO
                     have e5 : decide (le < 0) = true := decide_eq_true c5
                     clear c5 z1
                     have hv := HNO.out (by simp)
                     go_wp2_with fail
                     go_ret
                     exact ⟨by first | (rw [hv]; rfl) | rfl, HBN.out⟩
                   · have e5 : decide (le < 0) = false := decide_eq_false c5
                     by_cases c6 : 1073741824 < le
                     · have z1 : decide (0 ≤ le ∧ le ≤ 1073741824) = false := decide_eq_false (by omega)
                       rw [z1] at HNO
                       have e6 : decide (1073741824 < le) = true := decide_eq_true c6
                       clear c5 c6 z1
                       have hv := HNO.out (by simp)
                       go_wp2_with fail
                       go_ret
                       exact ⟨by first | (rw [hv]; rfl) | rfl, HBN.out⟩
                     · have e6 : decide (1073741824 < le) = false := decide_eq_false c6
                       have z1 : decide (0 ≤ le ∧ le ≤ 1073741824) = true := decide_eq_true (by omega)
                       rw [z1] at HNO HYES
                       clear c5 c6 z1 HBN
                       obtain ⟨hky, hkz⟩ := HKY.out rfl
                       have HKQ := Lib.hid hky; have HKZ := Lib.hid hkz
                       clear hky hkz HKY
                       go_upto_region 10 with fail
                       clear y1 y2 y3 e1 e2 e3 e4 e5 e6
                       refine plain_T (fun U => Below w5.heap.size w5 U) [] (by kernel_rfl) ?_
                       have HD : Hid (Below w5.heap.size w5 w6.drew) := Lib.hid (HB6.out.drew)
                       generalize w6.drew = wd at HD ⊢
                       by_cases hk0 : k = 0
                       · have e0 : decide ((0 : Int) < (k : Int)) = false := decide_eq_false (by omega)
                         have e0n : decide (0 < k) = false := decide_eq_false (by omega)
                         rw [decide_eq_true hk0] at HNO HYES
                         have HY := Lib.hid (HYES.out (by simp))
                         refine wpAnyT_pick (S := (fun U => Below w5.heap.size w5 U)) (by kernel_rfl) Only.panic Only.keepsIn (w := wd) HD.out [0, 1, 2, 3, 4, 5, 6, 7, 8, 9, 10, 11, 12, 13, 14, 15] 0 _ _ (by kernel_rfl) ?_
                         refine PickT.value (d := some 63) (.int .i64 (k : Int)) rfl rfl (by kernel_rfl) (fun U hU => (by go_simp)) ?_
                         refine PickT.value (d := some 64) (.bool false) rfl rfl (by kernel_rfl) (fun U hU => (by go_simp)) ?_
                         refine PickT.value (d := some 65) (.bool false) rfl rfl (by kernel_rfl) (fun U hU => (by go_simp)) ?_
                         refine PickT.skip (d := some 66) rfl rfl (by kernel_rfl) ?_
                         refine PickT.skip (d := some 67) rfl rfl (by kernel_rfl) ?_
                         refine PickT.skip (d := some 68) rfl rfl (by kernel_rfl) ?_
                         refine PickT.skip (d := some 69) rfl rfl (by kernel_rfl) ?_
                         refine PickT.skip (d := some 70) rfl rfl (by kernel_rfl) ?_
                         refine PickT.skip (d := some 71) rfl rfl (by kernel_rfl) ?_
                         refine PickT.skip (d := some 72) rfl rfl (by kernel_rfl) ?_
                         refine PickT.skip (d := some 73) rfl rfl (by kernel_rfl) ?_
                         refine PickT.skip (d := some 74) rfl rfl (by kernel_rfl) ?_
                         refine PickT.skip (d := some 75) rfl rfl (by kernel_rfl) ?_
                         refine PickT.skip (d := some 76) rfl rfl (by kernel_rfl) ?_
                         refine PickT.skip (d := some 77) rfl rfl (by kernel_rfl) ?_
                         refine PickT.value (d := some 78) (.bool false) rfl rfl (by kernel_rfl) (fun U hU => (by go_simp)) ?_
                         simp only [PickT, Act.put, List.setIfInBounds_toArray, List.set_cons_zero, List.set_cons_succ]
                         clear hk0 e0 e0n HP HKQ HNO HYES HKZ
                         refine wpAnyT_done (by kernel_rfl) ?_ _
                         refine only_mk ?_
                         have HBN := Lib.hid (below_step (below_step HBL.out HB5.out) HD.out)
                         have HL := Lib.hid (HLG.out _ HD.out)
                         have hy := heap_keep HY5.out HD.out
                         have y0 := cell_of_row _ _ 0 _ _ _ hy
                         simp only [List.getElem?_toArray, List.getElem?_cons_zero] at y0
                         clear hy
                         cases b with
                         | true =>
                          have HLN := Lib.hid (HLT.out rfl)
                          go_wp2_with fail
                          go_roundw
                          case rel => exact ⟨k + 1, true, by omega, by go_num, HY.out, rfl, ⟨fun _ => HLN.out, fun _ => rfl⟩, HBN.out⟩
                          case measure => simp [intOf]; omega
                         | false =>
                          have HLN := Lib.hid (HLF.out rfl)
                          go_wp2_with fail
                          refine HL.out.mono ?_; rintro e w15 ⟨rfl, hb15⟩
                          have HB15 := Lib.hid (below_step HBN.out hb15)
                          clear hb15 HL y0 HBN
                          generalize Ix.long (q k).e.l = lg at *
                          go_wp2_with fail
                          refine (rLimit_any g _).mono ?_; rintro e w16 ⟨rfl, rfl⟩
                          by_cases hlg : La.limit g < lg
                          · have g1 : decide (((La.limit g : Nat) : Int) < (lg : Int)) = true := decide_eq_true (by omega)
                            have g1n : decide (La.limit g < lg) = true := decide_eq_true hlg
                            rw [g1n] at HLN
                            clear hlg
                            go_wp2_with fail
                            go_roundw
                            case rel => exact ⟨k + 1, true, by omega, by go_num, HY.out, rfl, ⟨fun _ => HLN.out.1 (by trivial), fun _ => rfl⟩, HB15.out⟩
                            case measure => simp [intOf]; omega
                          · have g1 : decide (((La.limit g : Nat) : Int) < (lg : Int)) = false := decide_eq_false (by omega)
                            have g1n : decide (La.limit g < lg) = false := decide_eq_false hlg
                            rw [g1n] at HLN
                            clear hlg
                            go_wp2_with fail
                            go_roundw
                            case rel => exact ⟨k + 1, false, by omega, by go_num, HY.out, rfl, HLN.out, HB15.out⟩
                            case measure => simp [intOf]; omega
                       · have e0 : decide ((0 : Int) < (k : Int)) = true := decide_eq_true (by omega)
                         have e0n : decide (0 < k) = true := decide_eq_true (by omega)
                         rw [decide_eq_false hk0, Bool.false_or] at HNO HYES
                         have HPQ := Lib.hid (HP.out (by omega))
                         clear HP
                         have k1 : (k : Int) - 1 = ((k - 1 : Nat) : Int) := by omega
                         have k2 : IntKind.i64.wrap ((k - 1 : Nat) : Int) = ((k - 1 : Nat) : Int) := by rw [IntKind.wrap_i64]; omega
                         have k3 : (0 : Int) ≤ ((k - 1 : Nat) : Int) := by omega
                         have k4 : ((k - 1 : Nat) : Int) < (n : Int) := by omega
                         generalize k - 1 = k' at *
                         refine wpAnyT_pick (S := (fun U => Below w5.heap.size w5 U)) (by kernel_rfl) Only.panic Only.keepsIn (w := wd) HD.out [0, 1, 2, 3, 4, 5, 6, 7, 8, 10, 11] 5 _ _ (by kernel_rfl) ?_
                         refine PickT.value (d := some 63) (.int .i64 (k : Int)) rfl rfl (by kernel_rfl) (fun U hU => (by go_simp)) ?_
                         refine PickT.value (d := some 64) (.bool true) rfl rfl (by kernel_rfl) (fun U hU => (by go_simp)) ?_
                         refine PickT.value (d := some 65) (.bool true) rfl rfl (by kernel_rfl) (fun U hU => (by go_simp)) ?_
                         refine PickT.value (d := some 66) (.slice (some ad) n c) rfl rfl (by kernel_rfl) (fun U hU => (by go_simp)) ?_
                         refine PickT.value (d := some 67) (.int .i64 (k : Int)) rfl rfl (by kernel_rfl) (fun U hU => (by go_simp)) ?_
                         refine PickT.value (d := some 68) (.int .i64 (k' : Int)) rfl rfl (by kernel_rfl) (fun U hU => (by go_simp)) ?_
                         refine PickT.value (d := some 69) (.pointer (some (ad.add (k' * 4)))) rfl rfl (by kernel_rfl) (fun U hU => (by go_simp)) ?_
                         refine PickT.value (d := some 70) (.pointer (some (ad.add (k' * 4)))) rfl rfl (by kernel_rfl) (fun U hU => (by go_simp)) ?_
                         refine PickT.value (d := some 71) (.slice (q k').A (q k').e.l.length (q k').c) rfl rfl (by kernel_rfl) (fun U hU => (by have h0 := (HPQ.out U (HB5.out.trans (hU.mono HB5.out.size))).1; go_simp)) ?_
                         refine PickT.value (d := some 73) (.pointer (some ⟨eb, 0, none⟩)) rfl rfl (by kernel_rfl) (fun U hU => (by go_simp)) ?_
                         refine PickT.value (d := some 74) (.slice (q k).A (q k).e.l.length (q k).c) rfl rfl (by kernel_rfl) (fun U hU => (by have h0 := cell_of_row _ _ 0 _ _ _ (heap_keep HY5.out hU); simp only [List.getElem?_toArray, List.getElem?_cons_zero] at h0; go_simp)) ?_
                         simp only [PickT, Act.put, List.setIfInBounds_toArray, List.set_cons_zero, List.set_cons_succ]
                         refine wpAnyT_one (i := 9) (by kernel_rfl) rfl (by kernel_rfl) ?_
                         intro K0 hK
                         unfold Oper.wp
                         go_simp
                         have hpp := HPQ.out _ (HB5.out.trans (HD.out.mono HB5.out.size))
                         refine hpp.2.1.mono ?_; rintro e w10 ⟨rfl, hb10⟩
                         have HB10 := Lib.hid (below_step HD.out hb10)
                         have HPZ := Lib.hid hpp.2.2
                         clear hb10 HPQ hpp
                         refine hK _ _ (fun _ => HB10.out) ?_
                         clear hK K0
                         refine wpAnyT_one (i := 12) (by kernel_rfl) rfl (by kernel_rfl) ?_
                         intro K0 hK
                         unfold Oper.wp
                         go_simp
                         refine (HKQ.out _ (HB5.out.trans (HB10.out.mono HB5.out.size))).mono ?_; rintro e w11 ⟨rfl, hb11⟩
                         have HB11 := Lib.hid (below_step HB10.out hb11)
                         clear hb11 HKQ HB10
                         refine hK _ _ (fun _ => HB11.out) ?_
                         clear hK K0
                         refine wpAnyT_one (i := 13) (by kernel_rfl) rfl (by kernel_rfl) ?_
                         intro K0 hK
                         unfold Oper.wp
                         go_simp
                         refine (rAhead_any _ _ HPZ.out HKZ.out _).mono ?_; rintro e w12 ⟨rfl, hb12⟩
                         have HB12 := Lib.hid (below_step HB11.out hb12)
                         clear hb12 HB11 HPZ HKZ
                         refine hK _ _ (fun _ => HB12.out) ?_
                         clear hK K0
                         generalize La.less (Ix.key (q k').e.l) (Ix.key (q k).e.l) = l1 at *
                         cases l1 with
                         | false =>
                          refine wpAnyT_pick (S := (fun U => Below w5.heap.size w5 U)) (by kernel_rfl) Only.panic Only.keepsIn (w := w12) HB12.out [14, 15] 0 _ _ (by kernel_rfl) ?_
                          refine PickT.value (d := some 77) (.bool true) rfl rfl (by kernel_rfl) (fun U hU => (by go_simp)) ?_
                          refine PickT.value (d := some 78) (.bool true) rfl rfl (by kernel_rfl) (fun U hU => (by go_simp)) ?_
                          simp only [PickT, Act.put, List.setIfInBounds_toArray, List.set_cons_zero, List.set_cons_succ]
                          refine wpAnyT_done (by kernel_rfl) ?_ _
                          refine only_mk ?_
                          have HBN := Lib.hid (below_step (below_step HBL.out HB5.out) HB12.out)
                          clear hk0 e0 e0n k1 k2 k3 k4
                          have hv := HNO.out (by simp)
                          go_wp2_with fail
                          go_ret
                          exact ⟨by first | (rw [hv]; rfl) | rfl, HBN.out⟩
                         | true =>
                          have HY := Lib.hid (HYES.out (by simp))
                          refine wpAnyT_pick (S := (fun U => Below w5.heap.size w5 U)) (by kernel_rfl) Only.panic Only.keepsIn (w := w12) HB12.out [14, 15] 0 _ _ (by kernel_rfl) ?_
                          refine PickT.value (d := some 77) (.bool false) rfl rfl (by kernel_rfl) (fun U hU => (by go_simp)) ?_
                          refine PickT.value (d := some 78) (.bool false) rfl rfl (by kernel_rfl) (fun U hU => (by go_simp)) ?_
                          simp only [PickT, Act.put, List.setIfInBounds_toArray, List.set_cons_zero, List.set_cons_succ]
                          clear hk0 e0 e0n k1 k2 k3 k4 HNO HYES
                          refine wpAnyT_done (by kernel_rfl) ?_ _
                          refine only_mk ?_
                          have HBN := Lib.hid (below_step (below_step HBL.out HB5.out) HB12.out)
                          have HL := Lib.hid (HLG.out _ HB12.out)
                          have hy := heap_keep HY5.out HB12.out
                          have y0 := cell_of_row _ _ 0 _ _ _ hy
                          simp only [List.getElem?_toArray, List.getElem?_cons_zero] at y0
                          clear hy
                          cases b with
                          | true =>
                           have HLN := Lib.hid (HLT.out rfl)
                           go_wp2_with fail
                           go_roundw
                           case rel => exact ⟨k + 1, true, by omega, by go_num, HY.out, rfl, ⟨fun _ => HLN.out, fun _ => rfl⟩, HBN.out⟩
                           case measure => simp [intOf]; omega
                          | false =>
                           have HLN := Lib.hid (HLF.out rfl)
                           go_wp2_with fail
                           refine HL.out.mono ?_; rintro e w15 ⟨rfl, hb15⟩
                           have HB15 := Lib.hid (below_step HBN.out hb15)
                           clear hb15 HL y0 HBN
                           generalize Ix.long (q k).e.l = lg at *
                           go_wp2_with fail
                           refine (rLimit_any g _).mono ?_; rintro e w16 ⟨rfl, rfl⟩
                           by_cases hlg : La.limit g < lg
                           · have g1 : decide (((La.limit g : Nat) : Int) < (lg : Int)) = true := decide_eq_true (by omega)
                             have g1n : decide (La.limit g < lg) = true := decide_eq_true hlg
                             rw [g1n] at HLN
                             clear hlg
                             go_wp2_with fail
                             go_roundw
                             case rel => exact ⟨k + 1, true, by omega, by go_num, HY.out, rfl, ⟨fun _ => HLN.out.1 (by trivial), fun _ => rfl⟩, HB15.out⟩
                             case measure => simp [intOf]; omega
                           · have g1 : decide (((La.limit g : Nat) : Int) < (lg : Int)) = false := decide_eq_false (by omega)
                             have g1n : decide (La.limit g < lg) = false := decide_eq_false hlg
                             rw [g1n] at HLN
                             clear hlg
                             go_wp2_with fail
                             go_roundw
                             case rel => exact ⟨k + 1, false, by omega, by go_num, HY.out, rfl, HLN.out, HB15.out⟩
                             case measure => simp [intOf]; omega
        · obtain rfl : k = n := by omega
          have dd1 : decide ((k : Int) < (k : Int)) = false := decide_eq_false (by omega)
          cases b with
          | true =>
           have hv : V = 3 := by
            obtain ⟨j, hj, h2⟩ := HLO.out.1 rfl
            exact V4.out HIG.out h20 HALL.out j hj h2
           go_wp2_with fail
           go_ret
           exact ⟨by first | (rw [hv]; rfl) | rfl, HBL.out⟩
          | false =>
           have hv : V = 0 := V5.out HIG.out h20 HALL.out (fun i hi => by
            rcases Nat.lt_or_ge (La.limit g) (Ix.long (q i).e.l) with h | h
            · have := HLO.out.2 ⟨i, hi, h⟩; cases this
            · exact h)
           go_wp2_with fail
           go_ret
           exact ⟨by first | (rw [hv]; rfl) | rfl, HBL.out⟩
     · have d3 : decide ((20 : Int) < (n : Int)) = true := decide_eq_true (by omega)
       have d3n : decide (20 < n) = true := decide_eq_true (by omega)
       have hv := V2.out (by omega)
       go_wp2_with fail
       go_ret
       exact ⟨by first | (rw [hv]; rfl) | rfl, Below.refl _ _⟩
end Go.Proofs.YtliobahnekohmaaGreat
