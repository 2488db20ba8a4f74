/-
  What the functions of the reference alluviumref03 come to: GetSmall.
-/
import Derived.Test.YtokofifecdpmfaaGreatDoorNumU
namespace Go.Proofs.YtokofifecdpmfaaGreatDoor
open Go.RowKit

theorem Num.wrap_times (x : Nat) : IntKind.u64.wrap ((x : Int) * 128) = ((x * 128 % 18446744073709551616 : Nat) : Int) := by
  rw [IntKind.wrap_u64]; omega
theorem Num.check_small (s : ByteArray) (k n : Nat) (o : Bool) (hn : n < 18446744073709551616) (h : decp 0 0 s.data.toList = (n, k, o)) : smallB n = s.extract 0 k ↔ o = true := by
  constructor
  · intro e
    have h1 := decp_small n hn (s.extract k s.size)
    rw [e, split_at, h] at h1
    simp only [Prod.mk.injEq] at h1
    exact h1.2.2
  · intro e
    have h1 := small_back s (by rw [h]; exact e)
    rw [h] at h1
    exact h1.1

set_option maxRecDepth 100000 in
set_option maxHeartbeats 800000 in
theorem rGetSmall_any (s : ByteArray) (hs : s.size ≤ 1000) (w : World) (v : Nat) (p : ByteArray) (ok : Bool)
    (hv : v = if (Num.decp 0 0 s.data.toList).2.2 = true then (Num.decp 0 0 s.data.toList).1 else 0) (hp : p = if (Num.decp 0 0 s.data.toList).2.2 = true then s.extract (Num.decp 0 0 s.data.toList).2.1 s.size else s) (ho : ok = (Num.decp 0 0 s.data.toList).2.2) :
    Calls Tryz.prog 58 #[.string s] w fun e w' => e = .returned (.tuple #[.int .u64 (v : Int), .string p, .bool ok]) ∧ Below w.heap.size w w' := by
  have HV := Lib.hid hv; have HP := Lib.hid hp; have HO := Lib.hid ho; clear hv hp ho
  go_enter Tryz.func58, Tryz.ntmps58
  go_wp2
  go_loop [5, 6, 7] (fun x u i => ∃ k a : Nat, k ≤ s.size ∧ k ≤ 10 ∧ i = .int .i64 k ∧ x = .int .u64 a ∧ u = .int .u64 ((128 ^ k % 18446744073709551616 : Nat) : Int) ∧ Num.decp k a (s.data.toList.drop k) = Num.decp 0 0 s.data.toList ∧ a < 128 ^ k) (fun _ _ i => 10 - (intOf i).toNat)
  case atStart => exact ⟨0, 0, by omega, by omega, rfl, rfl, rfl, rfl, by simp⟩
  case round =>
    obtain ⟨k, a, hk1, hk2, rfl, rfl, rfl, hd, ha⟩ := hrel
    by_cases hk : k < s.size ∧ k < 10
    · obtain ⟨hk1', hk2'⟩ := hk
      have hp : 128 ^ k % 18446744073709551616 = 128 ^ k := Nat.mod_eq_of_lt (Nat.lt_of_le_of_lt (Nat.pow_le_pow_right (by decide) (by omega : k ≤ 9)) (by decide))
      rw [hp]; clear hp
      rw [Num.drop_byte s k hk1'] at hd
      have hb := s[k].toNat_lt
      have HH := Lib.hid hd; have HA := Lib.hid ha; clear hd ha
      generalize hB : s[k].toNat = b at *
      have HB := Lib.hid hB
      have hw := Num.wrap_small b (by omega)
      by_cases h9 : k = 9 ∧ 1 < b % 128
      · have hst := Num.decp_nine k a s[k] (s.data.toList.drop (k + 1)) h9.1 (by omega)
        obtain ⟨h9, h1⟩ := h9
        have e9 : ((k : Int) == 9) = true := by simp; omega
        have e8 : decide ((1 : Int) < (b : Int) % 128) = true := by simp; omega
        have H9 := Lib.hid h9; have HST := Lib.hid hst; clear h9 hst
        generalize 128 ^ k = U at *
        go_wp2
        go_ret3
        have hD := HH.out.symm.trans HST.out
        have h1 := HV.out; have h2 := HP.out; have h3 := HO.out
        rw [hD] at h1 h2 h3
        subst h1 h2 h3
        exact ⟨rfl, Below.refl _ _⟩
      · have hrm := Num.room a (b % 128) k HA.out hk2' h9
        rw [Nat.mod_mod] at hrm
        obtain ⟨q, hq⟩ : ∃ q, b % 128 * 128 ^ k = q := ⟨_, rfl⟩
        rw [hq] at hrm
        have hqi : ((b : Int) % 128) * ((128 ^ k : Nat) : Int) = (q : Int) := by rw [← hq]; push_cast; rfl
        have hU : IntKind.u64.wrap (((128 ^ k : Nat) : Int) * 128) = ((128 ^ (k + 1) % 18446744073709551616 : Nat) : Int) := by rw [Nat.pow_succ]; exact Num.wrap_times _
        have hw1 : IntKind.u64.wrap (q : Int) = (q : Int) := by rw [IntKind.wrap_u64]; omega
        have hw2 : IntKind.u64.wrap ((a : Int) + (q : Int)) = ((a + q : Nat) : Int) := by rw [IntKind.wrap_u64]; omega
        have HR := Lib.hid hrm; have HQ := Lib.hid hq; clear hrm hq
        have HU := Lib.hid hU; clear hU
        have HU0 : Hid (IntKind.u64.wrap (((128 ^ k : Nat) : Int) * 128) = ((128 ^ (k + 1) % 18446744073709551616 : Nat) : Int)) := HU
        generalize hUk : 128 ^ k = U at *
        have HUK := Lib.hid hUk; clear hUk
        have hU1 := HU.out
        generalize hU2 : 128 ^ (k + 1) % 18446744073709551616 = U2 at *
        have HU2 := Lib.hid hU2; clear hU2
        have hc : ((k : Int) == 9) = false ∨ (((k : Int) == 9) = true ∧ decide ((1 : Int) < (b : Int) % 128) = false) := by
          by_cases e : k = 9
          · right; simp [e]; omega
          · left; simp; omega
        clear HU0
        by_cases hlow : b < 128
        · have hD := HH.out.symm.trans (Num.decp_low k a s[k] (s.data.toList.drop (k + 1)) hk2' (by rw [hB]; omega) (by omega))
          rw [hB, HUK.out, HQ.out] at hD
          have HD := Lib.hid hD; clear hD h9
          have hck := Num.check_small s (k + 1) (a + q) _ HR.out HD.out
          generalize decide (b ≠ 0 ∨ k = 0) = o at *
          generalize a + q = r at *
          have HCK := Lib.hid hck; clear hck
          have l1 : (0 : Int) ≤ (k : Int) + 1 := by omega
          have l2 : (k : Int) + 1 ≤ (s.size : Int) := by omega
          cases o with
          | true =>
            have heq := HCK.out.2 rfl
            have HEQ := Lib.hid heq; clear heq
            rcases hc with e9 | ⟨e9, e8⟩
            all_goals
              go_wp2
              have hi1 : IntKind.i64.wrap ((k : Int) + 1) = (k : Int) + 1 := IntWalk.i64_in _ (by omega)
              have hi2 : ((k : Int) + 1).toNat = k + 1 := by omega
              go_region_held3 (fun W => Below w.heap.size w W) (first | exact Below.refl _ _ | exact Below.drew (Below.refl _ _) | assumption | exact Below.drew ‹_›)
                (first | (go_at_call 23; refine (rSmall_any r HR _).mono ?_; rintro e w1 ⟨rfl, hb⟩; replace hb := below_step (by assumption) hb; rw [HEQ.out]))
              all_goals go_wp2
              all_goals go_quiet (fail)
              all_goals go_wp2
              all_goals go_ret3
              all_goals
                have h1 := HV.out; have h2 := HP.out; have h3 := HO.out
                rw [HD.out] at h1 h2 h3
                simp only [if_true] at h1 h2
                subst h1 h2 h3
                exact ⟨rfl, by first | assumption | exact below_drewN (by assumption) _⟩
          | false =>
            have hne : ((Num.smallB r).toList == (s.extract 0 (k + 1)).toList) = false := by
              rw [str_beq]
              exact decide_eq_false (fun h => by have := HCK.out.1 h; simp at this)
            have HNE := Lib.hid hne
            rcases hc with e9 | ⟨e9, e8⟩
            all_goals
              go_wp2
              have hi1 : IntKind.i64.wrap ((k : Int) + 1) = (k : Int) + 1 := IntWalk.i64_in _ (by omega)
              have hi2 : ((k : Int) + 1).toNat = k + 1 := by omega
              go_region_held3 (fun W => Below w.heap.size w W) (first | exact Below.refl _ _ | exact Below.drew (Below.refl _ _) | assumption | exact Below.drew ‹_›)
                (first | (go_at_call 23; refine (rSmall_any r HR _).mono ?_; rintro e w1 ⟨rfl, hb⟩; replace hb := below_step (by assumption) hb))
              all_goals go_wp2
              all_goals go_ret3
              all_goals
                have h1 := HV.out; have h2 := HP.out; have h3 := HO.out
                rw [HD.out] at h1 h2 h3
                simp only [Bool.false_eq_true, if_false] at h1 h2
                subst h1 h2 h3
                exact ⟨rfl, by first | assumption | exact below_drewN (by assumption) _⟩
        · have hnx : Num.decp (k + 1) (a + q) (s.data.toList.drop (k + 1)) = Num.decp 0 0 s.data.toList := by
            by_cases e : k = 9
            · have h1 := HH.out.symm.trans (Num.decp_nine k a s[k] (s.data.toList.drop (k + 1)) e (by omega))
              rw [h1]
              exact Num.decp_stop _ _ _ (.inr (by omega))
            · have h1 := HH.out.symm.trans (Num.decp_more k a s[k] (s.data.toList.drop (k + 1)) hk2' (by omega) (by omega))
              rw [hB, HUK.out, HQ.out] at h1
              exact h1.symm
          have hlt : a + q < 128 ^ (k + 1) := by
            have h1 := HA.out; have h2 := HQ.out; have h3 := HUK.out
            rw [Nat.pow_succ, h3]
            have : b % 128 * U ≤ 127 * U := Nat.mul_le_mul_right _ (by omega)
            omega
          have HNX := Lib.hid hnx; have HLT := Lib.hid hlt; clear hnx hlt h9
          generalize a + q = r at *
          rcases hc with e9 | ⟨e9, e8⟩
          all_goals
            go_wp2
            refine ⟨⟨k + 1, r, by omega, by omega, by go_num, rfl, by rw [HU2.out], HNX.out, HLT.out⟩, by simp [intOf]; omega⟩
    · have hD := Num.decp_stop k a (s.data.toList.drop k) (by
        rcases Nat.lt_or_ge k 10 with h | h
        · left; simp; omega
        · right; exact h)
      have HD := Lib.hid (hd.symm.trans hD); clear hd hD ha
      rcases (by omega : ¬ k < s.size ∨ (k < s.size ∧ k = 10)) with h1 | ⟨h1, rfl⟩
      all_goals
        go_wp2
        go_ret3
        have h1 := HV.out; have h2 := HP.out; have h3 := HO.out
        rw [HD.out] at h1 h2 h3
        subst h1 h2 h3
        exact ⟨rfl, Below.refl _ _⟩
end Go.Proofs.YtokofifecdpmfaaGreatDoor
