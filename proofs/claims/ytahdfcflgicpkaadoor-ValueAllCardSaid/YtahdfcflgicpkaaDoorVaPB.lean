/-
  The candidate that Get of the document's answer for package value reads: its mathematics, and what take comes to.
-/
import Derived.Test.YtahdfcflgicpkaaDoorVaPA
namespace Go.Proofs.YtahdfcflgicpkaaDoor
open Go.RowKit
namespace Va
/-- so many bits at a place, turned up by so many -/
def tk (L : List Bool) (a n : Nat) (up : Int) : Nat × Bool := if L.length < a + n ∨ up < 0 then (0, false) else (Bit.val ((L.drop a).take n) * 2 ^ up.toNat, true)
/-- the number that is tried -/
def S.cand (s : S) (L : List Bool) : Nat × Bool :=
  if s.n = 0 then tk L 0 64 0 else
  if L.getD 0 false = true then
    if 1 < L.length ∧ L.getD 1 false = false then tk L 2 (64 - s.l - s.t) s.t
    else if 14 ≤ L.length then tk L 14 (Bit.val ((L.drop 8).take 6) + 1) (64 - (Bit.val ((L.drop 2).take 6) : Int) - ((Bit.val ((L.drop 8).take 6) + 1 : Nat) : Int))
    else (0, false)
  else (0, true)
def S.tried (s : S) (c : Nat) : Nat := if s.n = 0 then c else c ^^^ s.v
theorem tk_lt (L : List Bool) (a n : Nat) (up : Int) (h : (n : Int) + up ≤ 64) : (tk L a n up).1 < 18446744073709551616 := by
  unfold tk
  split
  · show 0 < _; omega
  · rename_i hc
    have hv := Bit.val_take_lt (L.drop a) n
    exact mul_lt hv (by omega)
theorem S.cand_lt {s : S} (hok : s.ok) (L : List Bool) : (s.cand L).1 < 18446744073709551616 := by
  unfold S.cand
  split
  · exact tk_lt _ _ _ _ (by decide)
  · split
    · split
      · exact tk_lt _ _ _ _ (by have := hok.w; omega)
      · split
        · exact tk_lt _ _ _ _ (by omega)
        · show 0 < _; omega
    · show 0 < _; omega
theorem S.tried_lt {s : S} (hok : s.ok) {c : Nat} (hc : c < 18446744073709551616) : s.tried c < 18446744073709551616 := by
  unfold S.tried; split
  · exact hc
  · exact xor_lt hc hok.v
theorem tk_code (p q R : List Bool) (up : Nat) : tk (p ++ (q ++ R)) p.length q.length up = (Bit.val q * 2 ^ up, true) := by
  unfold tk
  rw [if_neg (by simp only [List.length_append]; omega), List.drop_left, List.take_left]
  rfl
theorem S.cand_code {s : S} (hok : s.ok) (v : Nat) (hv : v < 18446744073709551616) (R : List Bool) : s.cand (s.code v ++ R) = (if s.n = 0 then v else v ^^^ s.v, true) := by
  have hx := xor_lt hv hok.v
  have hxx : v ^^^ s.v ^^^ s.v = v := xor_back _ _
  have e64 : (2 : Nat) ^ 64 = 18446744073709551616 := by decide
  unfold S.cand S.code
  generalize hxe : v ^^^ s.v = x at *
  by_cases hn : s.n = 0
  · have hw : way s x = 0 := way_zero.2 hn
    simp only [hn, hw, if_true]
    have := tk_code [] (Bit.of v 64) R 0
    rw [Bit.of_length, Bit.val_of, Nat.mod_eq_of_lt (by omega)] at this
    simpa using this
  · have hw0 : way s x ≠ 0 := fun h => hn (way_zero.1 h)
    simp only [hn, hw0, if_false]
    by_cases h1 : way s x = 1
    · have : x = 0 := (way_one.1 h1).2
      simp only [h1, if_true]
      rw [this]; rfl
    · by_cases h2 : way s x = 2
      · obtain ⟨_, hx0, h64, hl, ht⟩ := way_two.1 h2
        have hwin : s.win + s.t + s.l = 64 := by have := hok.w; unfold S.win; omega
        obtain ⟨g1, g2, g3⟩ := ends hx hx0
        have hdiv : x / 2 ^ s.t * 2 ^ s.t = x := by
          have : 2 ^ s.t ∣ x := by
            rw [g3]; exact Nat.dvd_trans (Nat.pow_dvd_pow 2 ht) (Nat.dvd_mul_left _ _)
          exact Nat.div_mul_cancel this
        have hlt : x / 2 ^ s.t < 2 ^ s.win := by
          have : x < 2 ^ (64 - s.l) := Nat.lt_of_lt_of_le g2 (Bit.two_pow_le (by omega))
          rw [show 64 - s.l = s.t + s.win from by omega, Nat.pow_add] at this
          exact Nat.div_lt_of_lt_mul this
        simp only [h2, if_true, show ¬ ((2 : Nat) = 1) from by decide, if_false]
        have hlist : Bit.of 2 2 ++ Bit.of (x / 2 ^ s.t) s.win ++ R = [true, false] ++ (Bit.of (x / 2 ^ s.t) s.win ++ R) := by rw [List.append_assoc]; rfl
        have := tk_code [true, false] (Bit.of (x / 2 ^ s.t) s.win) R s.t
        rw [Bit.of_length, Bit.val_of, Nat.mod_eq_of_lt hlt, hdiv] at this
        rw [hlist, if_pos (show ([true, false] ++ (Bit.of (x / 2 ^ s.t) s.win ++ R)).getD 0 false = true from rfl), if_pos ⟨by simp, rfl⟩]
        exact this
      · have h3 : way s x = 3 := by have := way_lt s x; omega
        obtain ⟨_, hx0⟩ := way_three h3
        obtain ⟨g1, g2, g3⟩ := ends hx hx0
        have hnx : s.next v = ⟨s.n + 1, v, lead x, trail x⟩ := by unfold S.next; rw [hxe, if_pos h3]
        simp only [h1, if_false, h2, hnx]
        have hwin : (⟨s.n + 1, v, lead x, trail x⟩ : S).win = 64 - lead x - trail x := rfl
        rw [hwin]
        generalize hld : lead x = ld at *
        generalize htr : trail x = tr at *
        have hls : 64 - ld - tr - 1 = 63 - ld - tr := by omega
        rw [hls]
        have hlt : x / 2 ^ tr < 2 ^ (64 - ld - tr) := by
          rw [show 64 - ld = tr + (64 - ld - tr) from by omega, Nat.pow_add] at g2
          exact Nat.div_lt_of_lt_mul g2
        have hp : (Bit.of 3 2 ++ Bit.of ld 6 ++ Bit.of (63 - ld - tr) 6).length = 14 := by simp only [List.length_append, Bit.of_length]
        have htk := tk_code (Bit.of 3 2 ++ Bit.of ld 6 ++ Bit.of (63 - ld - tr) 6) (Bit.of (x / 2 ^ tr) (64 - ld - tr)) R tr
        rw [hp, Bit.of_length, Bit.val_of, Nat.mod_eq_of_lt hlt, ← g3] at htk
        rw [List.append_assoc]
        generalize hT : Bit.of (x / 2 ^ tr) (64 - ld - tr) ++ R = T at *
        have hlist : Bit.of 3 2 ++ Bit.of ld 6 ++ Bit.of (63 - ld - tr) 6 ++ T = true :: true :: (Bit.of ld 6 ++ (Bit.of (63 - ld - tr) 6 ++ T)) := by
          simp only [List.append_assoc]; rfl
        have v1 : Bit.val (((Bit.of 3 2 ++ Bit.of ld 6 ++ Bit.of (63 - ld - tr) 6 ++ T).drop 2).take 6) = ld := by
          rw [hlist]
          show Bit.val ((Bit.of ld 6 ++ (Bit.of (63 - ld - tr) 6 ++ T)).take 6) = ld
          rw [List.take_append_of_le_length (by rw [Bit.of_length]; omega), List.take_of_length_le (by rw [Bit.of_length]; omega), Bit.val_of, Nat.mod_eq_of_lt (by show ld < 64; omega)]
        have v2 : Bit.val (((Bit.of 3 2 ++ Bit.of ld 6 ++ Bit.of (63 - ld - tr) 6 ++ T).drop 8).take 6) = 63 - ld - tr := by
          rw [hlist]
          show Bit.val (((Bit.of ld 6 ++ (Bit.of (63 - ld - tr) 6 ++ T)).drop 6).take 6) = 63 - ld - tr
          rw [List.drop_append_of_le_length (by rw [Bit.of_length]; omega), List.drop_of_length_le (by rw [Bit.of_length]; omega), List.nil_append]
          rw [List.take_append_of_le_length (by rw [Bit.of_length]; omega), List.take_of_length_le (by rw [Bit.of_length]; omega), Bit.val_of, Nat.mod_eq_of_lt (by show 63 - ld - tr < 64; omega)]
        have hg0 : (Bit.of 3 2 ++ Bit.of ld 6 ++ Bit.of (63 - ld - tr) 6 ++ T).getD 0 false = true := by rw [hlist]; rfl
        have hg1 : (Bit.of 3 2 ++ Bit.of ld 6 ++ Bit.of (63 - ld - tr) 6 ++ T).getD 1 false = true := by rw [hlist]; rfl
        have hlen : 14 ≤ (Bit.of 3 2 ++ Bit.of ld 6 ++ Bit.of (63 - ld - tr) 6 ++ T).length := by rw [List.length_append, hp]; omega
        rw [hg0, if_pos rfl, hg1, if_neg (fun h => by cases h.2), if_pos hlen, v1, v2, show 63 - ld - tr + 1 = 64 - ld - tr from by omega, show (64 - (ld : Int) - ((64 - ld - tr : Nat) : Int)) = (tr : Int) from by omega]
        exact htk
/-- what is tried is what is got, if the bits begin with its own -/
theorem S.got_cand {s : S} (hok : s.ok) (L : List Bool) : s.got L = if (s.cand L).2 = true ∧ (s.code (s.tried (s.cand L).1)).length ≤ L.length ∧ L.take (s.code (s.tried (s.cand L).1)).length = s.code (s.tried (s.cand L).1) then some (s.tried (s.cand L).1) else none := by
  by_cases hc : (s.cand L).2 = true ∧ (s.code (s.tried (s.cand L).1)).length ≤ L.length ∧ L.take (s.code (s.tried (s.cand L).1)).length = s.code (s.tried (s.cand L).1)
  · rw [if_pos hc]
    have h := S.got_code hok (s.tried (s.cand L).1) (S.tried_lt hok (S.cand_lt hok L)) (L.drop (s.code (s.tried (s.cand L).1)).length)
    have e : s.code (s.tried (s.cand L).1) ++ L.drop (s.code (s.tried (s.cand L).1)).length = L := by
      conv => rhs; rw [← List.take_append_drop (s.code (s.tried (s.cand L).1)).length L, hc.2.2]
    rw [e] at h
    exact h
  · rw [if_neg hc]
    cases hg : s.got L with
    | none => rfl
    | some v =>
      exfalso
      obtain ⟨h1, h2, h3⟩ := S.got_some hok hg
      have h4 := S.cand_code hok v h3 (L.drop (s.cost v))
      rw [← h1] at h4
      have h5 : s.tried (s.cand L).1 = v := by
        rw [h4]; unfold S.tried
        split
        · rfl
        · exact xor_back _ _
      refine hc ⟨by rw [h4], ?_⟩
      rw [h5, S.code_length]
      refine ⟨h2, ?_⟩
      conv => lhs; rw [h1]
      rw [← S.code_length, List.take_left]
end Va
set_option maxRecDepth 100000 in
set_option maxHeartbeats 1000000 in
theorem rTake_any (L : List Bool) (a n : Nat) (ha : a ≤ 14) (hn : n ≤ 64) (up : Int) (hu : -64 ≤ up ∧ (n : Int) + up ≤ 64) (w : World) :
    Calls Tryd.prog 38 #[.string (Bit.str L), .int .i64 a, .int .i64 n, .int .i64 up] w fun e w' => e = .returned (.tuple #[.int .u64 ((Va.tk L a n up).1 : Nat), .bool (Va.tk L a n up).2]) ∧ w' = w := by
  have hs : (Bit.str L).size = L.length := Bit.str_size L
  have d0 : decide ((n : Int) < 0) = false := by simp
  have e1 : IntKind.i64.wrap ((a : Int) + (n : Int)) = (a : Int) + (n : Int) := IntWalk.i64_in _ (by omega)
  have e2 : wrap64 ((a : Int) + (n : Int)) = (a : Int) + (n : Int) := IntWalk.wrap64_in _ (by omega)
  by_cases hl : L.length < a + n
  · have ht : Va.tk L a n up = (0, false) := by unfold Va.tk; rw [if_pos (.inl hl)]
    rw [ht]
    have d1 : decide ((L.length : Int) < (a : Int) + (n : Int)) = true := by simp; omega
    have d1n : (L.length : Int) < (a : Int) + (n : Int) := by omega
    have HT : Hid (a ≤ 14 ∧ n ≤ 64) := Lib.hid ⟨ha, hn⟩
    clear ht hl
    go_enter Tryd.func38, Tryd.ntmps38
    go_wp2_with fail
    go_ret2
    exact ⟨rfl, rfl⟩
  · have d1 : decide ((L.length : Int) < (a : Int) + (n : Int)) = false := by simp; omega
    have d1n : ¬ (L.length : Int) < (a : Int) + (n : Int) := by omega
    have hl2 : a + n ≤ L.length := by omega
    by_cases hup : up < 0
    · have ht : Va.tk L a n up = (0, false) := by unfold Va.tk; rw [if_pos (.inr hup)]
      rw [ht]
      have d2 : decide (up < 0) = true := by simp; omega
      clear ht
      go_enter Tryd.func38, Tryd.ntmps38
      go_wp2_with fail
      go_ret2
      exact ⟨rfl, rfl⟩
    · obtain ⟨u, rfl⟩ : ∃ u : Nat, up = u := ⟨up.toNat, by omega⟩
      have ht : Va.tk L a n u = (Bit.val ((L.drop a).take n) * 2 ^ u, true) := by unfold Va.tk; rw [if_neg (by omega)]; rfl
      rw [ht]
      have d2 : decide ((u : Int) < 0) = false := by simp
      have hv := Bit.val_take_lt (L.drop a) n
      have hx : (Bit.str L).extract a (a + n) = Bit.str ((L.drop a).take n) := by rw [Bit.str_extract, Nat.add_sub_cancel_left]
      have hnum := fun W => rNumber_any ((L.drop a).take n) (by rw [List.length_take]; omega) W
      have hms : ∀ k, k ≤ u → Bit.val ((L.drop a).take n) * 2 ^ k < 18446744073709551616 := fun k hk => Va.mul_lt hv (by omega)
      generalize Bit.val ((L.drop a).take n) = m at *
      have HN := Lib.hid hnum; have HM := Lib.hid hms; have HV := Lib.hid hv; clear hnum hms hv ht
      go_enter Tryd.func38, Tryd.ntmps38
      go_wp2_with fail
      refine (HN.out _).mono ?_; rintro e wx ⟨rfl, rfl⟩
      go_wp2_with fail
      go_loop [10, 11] (fun v i => ∃ k : Nat, k ≤ u ∧ i = .int .i64 k ∧ v = .int .u64 ((m * 2 ^ k : Nat) : Int)) (fun _ i => u - (intOf i).toNat)
      case atStart => exact ⟨0, Nat.zero_le _, rfl, by rw [Nat.pow_zero, Nat.mul_one]⟩
      case round =>
        obtain ⟨k, hk, rfl, rfl⟩ := hrel
        by_cases hlt : k < u
        · have i1 : decide ((k : Int) < (u : Int)) = true := by simp; omega
          have hm := HM.out (k + 1) (by omega)
          have hw : IntKind.u64.wrap (((m * 2 ^ k : Nat) : Int) * 2) = ((m * 2 ^ (k + 1) : Nat) : Int) := by
            have e : ((m * 2 ^ k : Nat) : Int) * 2 = ((m * 2 ^ (k + 1) : Nat) : Int) := by rw [Nat.pow_succ]; push_cast; rw [Int.mul_assoc]
            rw [e, IntWalk.u64_in _ (by omega)]
          generalize hp : m * 2 ^ k = p at *
          have HP := Lib.hid hm; clear hm hp
          go_wp2_with fail
          go_round
          case rel => exact ⟨k + 1, by omega, by go_num, by go_num⟩
          case measure => simp [intOf]; omega
        · obtain rfl : k = u := by omega
          have i1 : decide ((k : Int) < (k : Int)) = false := by simp
          generalize hp : m * 2 ^ k = p at *
          have hq : (m : Int) * 2 ^ k = (p : Int) := by rw [← hp]; push_cast; rfl
          have HQ := Lib.hid hq; clear hp hq
          go_wp2_with fail
          go_ret2
          rw [HQ.out]
          exact ⟨rfl, rfl⟩
end Go.Proofs.YtahdfcflgicpkaaDoor
