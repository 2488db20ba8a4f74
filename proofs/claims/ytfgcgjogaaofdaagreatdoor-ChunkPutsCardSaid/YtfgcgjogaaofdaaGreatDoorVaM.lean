/-
  Values as bits: the mathematics.
-/
import Derived.Test.YtfgcgjogaaofdaaGreatDoorCom
import Derived.Test.YtfgcgjogaaofdaaGreatDoorBitL
namespace Go.Proofs.YtfgcgjogaaofdaaGreatDoor
open Go.RowKit
namespace Va

def lead (x : Nat) : Nat := 64 - Lib.bitLen x
def trail (x : Nat) : Nat := Lib.ctz 64 x
/-- a state: how many, the last value, the window -/
structure S where
  n : Nat
  v : Nat
  l : Nat
  t : Nat
def S.val (s : S) : Value := .agg #[.int .i64 s.n, .int .u64 s.v, .int .i64 s.l, .int .i64 s.t]
/-- a state that may be -/
structure S.ok (s : S) : Prop where
  v : s.v < 18446744073709551616
  n : s.n ≤ 2199023255552
  w : (s.l = 64 ∧ s.t = 0) ∨ s.l + s.t < 64
def way (s : S) (x : Nat) : Nat := if s.n = 0 then 0 else if x = 0 then 1 else if s.l ≠ 64 ∧ s.l ≤ lead x ∧ s.t ≤ trail x then 2 else 3
def S.win (s : S) : Nat := 64 - s.l - s.t
def S.next (s : S) (v : Nat) : S := if way s (v ^^^ s.v) = 3 then ⟨s.n + 1, v, lead (v ^^^ s.v), trail (v ^^^ s.v)⟩ else ⟨s.n + 1, v, s.l, s.t⟩
def S.code (s : S) (v : Nat) : List Bool :=
  if way s (v ^^^ s.v) = 0 then Bit.of v 64 else if way s (v ^^^ s.v) = 1 then Bit.of 0 1 else
  if way s (v ^^^ s.v) = 2 then Bit.of 2 2 ++ Bit.of ((v ^^^ s.v) / 2 ^ s.t) s.win else
  Bit.of 3 2 ++ Bit.of (s.next v).l 6 ++ Bit.of ((s.next v).win - 1) 6 ++ Bit.of ((v ^^^ s.v) / 2 ^ (s.next v).t) (s.next v).win
def S.cost (s : S) (v : Nat) : Nat :=
  if way s (v ^^^ s.v) = 0 then 64 else if way s (v ^^^ s.v) = 1 then 1 else if way s (v ^^^ s.v) = 2 then 2 + s.win else 14 + (s.next v).win
theorem S.code_length (s : S) (v : Nat) : (s.code v).length = s.cost v := by
  unfold S.code S.cost
  split
  · exact Bit.of_length _ _
  · split
    · exact Bit.of_length _ _
    · split
      · simp [Bit.of_length]
      · simp only [List.length_append, Bit.of_length]
theorem way_lt (s : S) (x : Nat) : way s x < 4 := by unfold way; split <;> (try split) <;> (try split) <;> omega
theorem way_zero {s : S} {x : Nat} : way s x = 0 ↔ s.n = 0 := by unfold way; split <;> (try split) <;> (try split) <;> simp_all
theorem way_one {s : S} {x : Nat} : way s x = 1 ↔ s.n ≠ 0 ∧ x = 0 := by unfold way; split <;> (try split) <;> (try split) <;> simp_all
theorem way_two {s : S} {x : Nat} : way s x = 2 ↔ s.n ≠ 0 ∧ x ≠ 0 ∧ s.l ≠ 64 ∧ s.l ≤ lead x ∧ s.t ≤ trail x := by unfold way; split <;> (try split) <;> (try split) <;> simp_all
theorem way_three {s : S} {x : Nat} : way s x = 3 → s.n ≠ 0 ∧ x ≠ 0 := by unfold way; split <;> (try split) <;> (try split) <;> simp_all
theorem win_le (s : S) : s.win ≤ 64 := by unfold S.win; omega

theorem xor_lt {a b : Nat} (ha : a < 18446744073709551616) (hb : b < 18446744073709551616) : a ^^^ b < 18446744073709551616 := by
  have := Nat.xor_lt_two_pow (n := 64) (x := a) (y := b) (by omega) (by omega)
  omega
theorem xor_back (a b : Nat) : a ^^^ b ^^^ b = a := by rw [Nat.xor_assoc, Nat.xor_self, Nat.xor_zero]
/-- the ends of a number that is not 0 -/
theorem ends {x : Nat} (hx : x < 18446744073709551616) (h0 : x ≠ 0) : lead x + trail x ≤ 63 ∧ x < 2 ^ (64 - lead x) ∧ x = x / 2 ^ trail x * 2 ^ trail x := by
  obtain ⟨h1, h2⟩ := Bit.both_ends x hx (by omega)
  obtain ⟨m, hm, hc⟩ := Lib.ctzFrom_spec 64 x (by omega) hx
  have e : Lib.ctz 64 x = Lib.ctzFrom 64 x := by simp [Lib.ctz, h0]
  have h3 := (Lib.bitLenAux_bounds 64 x hx (by omega)).2.2
  refine ⟨h1, ?_, ?_⟩
  · unfold lead
    rw [show 64 - (64 - Lib.bitLen x) = Lib.bitLen x from by omega]
    exact h3
  · unfold trail
    rw [e]
    generalize Lib.ctzFrom 64 x = c at *
    have hd : x / 2 ^ c = 2 * m + 1 := by
      rw [hm, Nat.mul_comm, Nat.mul_div_cancel _ (Nat.two_pow_pos c)]
    rw [hd, Nat.mul_comm]; exact hm
theorem lead_le_of {x l : Nat} (_h0 : x ≠ 0) (hl : l ≤ 64) (h : x < 2 ^ (64 - l)) : l ≤ lead x := by
  have := Lib.bitLen_le x (64 - l) (by omega) h
  unfold lead; omega
theorem trail_le_of {x t q : Nat} (hx : x < 18446744073709551616) (h0 : x ≠ 0) (h : x = q * 2 ^ t) : t ≤ trail x := by
  obtain ⟨m, hm, hc⟩ := Lib.ctzFrom_spec 64 x (by omega) hx
  have e : Lib.ctz 64 x = Lib.ctzFrom 64 x := by simp [Lib.ctz, h0]
  unfold trail
  rw [e]
  generalize Lib.ctzFrom 64 x = c at *
  rcases Nat.lt_or_ge c t with h1 | h1
  · exfalso
    have h2 : x.testBit c = true := by rw [hm, Nat.testBit_two_pow_mul]; simp
    have h3 : x.testBit c = false := by rw [h, Nat.mul_comm, Nat.testBit_two_pow_mul]; simp; omega
    rw [h2] at h3; cases h3
  · exact h1
theorem next_ok {s : S} (h : s.ok) (v : Nat) (hv : v < 18446744073709551616) (hn : s.n < 2199023255552) : (s.next v).ok ∧ (s.next v).v = v ∧ (s.next v).n = s.n + 1 := by
  unfold S.next
  by_cases h3 : way s (v ^^^ s.v) = 3
  · rw [if_pos h3]
    have := ends (xor_lt hv h.v) (way_three h3).2
    exact ⟨⟨hv, by show s.n + 1 ≤ _; omega, .inr (by show lead _ + trail _ < 64; omega)⟩, rfl, rfl⟩
  · rw [if_neg h3]
    exact ⟨⟨hv, by show s.n + 1 ≤ _; omega, h.w⟩, rfl, rfl⟩
theorem cost_le {s : S} (v : Nat) : s.cost v ≤ 78 := by
  have h1 := win_le s; have h2 := win_le (s.next v)
  unfold S.cost; split <;> (try split) <;> (try split) <;> omega
theorem cost_pos {s : S} (v : Nat) : 1 ≤ s.cost v := by
  unfold S.cost; split <;> (try split) <;> (try split) <;> omega

/-- the value that bits begin with, behind a state -/
def S.got (s : S) (L : List Bool) : Option Nat :=
  if s.n = 0 then (if L.length < 64 then none else some (Bit.val (L.take 64)))
  else match L with
    | [] => none
    | false :: _ => some s.v
    | [true] => none
    | true :: false :: R => if s.l = 64 then none else if R.length < s.win then none else
        if way s (Bit.val (R.take s.win) * 2 ^ s.t) = 2 then some (Bit.val (R.take s.win) * 2 ^ s.t ^^^ s.v) else none
    | true :: true :: R => if R.length < 12 then none else
        if 63 < Bit.val (R.take 6) + Bit.val ((R.drop 6).take 6) then none else
        if R.length < 12 + (Bit.val ((R.drop 6).take 6) + 1) then none else
        if lead (Bit.val ((R.drop 12).take (Bit.val ((R.drop 6).take 6) + 1)) * 2 ^ (63 - Bit.val (R.take 6) - Bit.val ((R.drop 6).take 6))) = Bit.val (R.take 6) ∧
            trail (Bit.val ((R.drop 12).take (Bit.val ((R.drop 6).take 6) + 1)) * 2 ^ (63 - Bit.val (R.take 6) - Bit.val ((R.drop 6).take 6))) = 63 - Bit.val (R.take 6) - Bit.val ((R.drop 6).take 6) ∧
            way s (Bit.val ((R.drop 12).take (Bit.val ((R.drop 6).take 6) + 1)) * 2 ^ (63 - Bit.val (R.take 6) - Bit.val ((R.drop 6).take 6))) = 3
        then some (Bit.val ((R.drop 12).take (Bit.val ((R.drop 6).take 6) + 1)) * 2 ^ (63 - Bit.val (R.take 6) - Bit.val ((R.drop 6).take 6)) ^^^ s.v) else none
theorem take_of {L : List Bool} {k : Nat} (h : k ≤ L.length) : L = Bit.of (Bit.val (L.take k)) k ++ L.drop k := by
  have h1 := Bit.of_val (L.take k)
  rw [List.length_take, Nat.min_eq_left h] at h1
  rw [h1, List.take_append_drop]
theorem mul_lt {v a b : Nat} (h : v < 2 ^ a) (hab : a + b ≤ 64) : v * 2 ^ b < 18446744073709551616 := by
  have h1 : v * 2 ^ b < 2 ^ a * 2 ^ b := Nat.mul_lt_mul_of_pos_right h (Nat.two_pow_pos b)
  rw [← Nat.pow_add] at h1
  have h2 : 2 ^ (a + b) ≤ 2 ^ 64 := Bit.two_pow_le hab
  have e : (2 : Nat) ^ 64 = 18446744073709551616 := by decide
  omega
theorem S.got_some {s : S} (hok : s.ok) {L : List Bool} {v : Nat} (h : s.got L = some v) : L = s.code v ++ L.drop (s.cost v) ∧ s.cost v ≤ L.length ∧ v < 18446744073709551616 := by
  unfold S.got at h
  by_cases hn : s.n = 0
  · simp only [hn, if_true] at h
    have hw : way s (v ^^^ s.v) = 0 := way_zero.2 hn
    unfold S.code S.cost
    rw [if_pos hw, if_pos hw]
    by_cases hl : L.length < 64
    · rw [if_pos hl] at h; cases h
    · rw [if_neg hl] at h
      obtain rfl := Option.some.inj h
      have hv := Bit.val_take_lt L 64
      exact ⟨take_of (by omega), by omega, by have e : (2 : Nat) ^ 64 = 18446744073709551616 := (by decide); omega⟩
  · simp only [hn, if_false] at h
    split at h
    · cases h
    · rename_i R
      obtain rfl := Option.some.inj h
      have hw : way s (s.v ^^^ s.v) = 1 := way_one.2 ⟨hn, Nat.xor_self _⟩
      unfold S.code S.cost
      rw [hw]
      exact ⟨rfl, by simp, hok.v⟩
    · cases h
    · rename_i R
      by_cases h64 : s.l = 64
      · rw [if_pos h64] at h; cases h
      · rw [if_neg h64] at h
        by_cases hl : R.length < s.win
        · rw [if_pos hl] at h; cases h
        · rw [if_neg hl] at h
          by_cases h2 : way s (Bit.val (R.take s.win) * 2 ^ s.t) = 2
          · rw [if_pos h2] at h
            obtain rfl := Option.some.inj h
            have hvl := Bit.val_take_lt R s.win
            have hwt : s.win + s.t ≤ 64 := by have := hok.w; unfold S.win; omega
            have hx := mul_lt hvl hwt
            unfold S.code S.cost
            rw [xor_back, h2]
            refine ⟨?_, by show 2 + s.win ≤ R.length + 1 + 1; omega, xor_lt hx hok.v⟩
            show true :: false :: R = Bit.of 2 2 ++ Bit.of _ s.win ++ (true :: false :: R).drop (2 + s.win)
            rw [Nat.mul_div_cancel _ (Nat.two_pow_pos _), Nat.add_comm 2]
            show true :: false :: R = [true, false] ++ Bit.of _ s.win ++ R.drop s.win
            rw [List.append_assoc, ← take_of (by omega)]; rfl
          · rw [if_neg h2] at h; cases h
    · rename_i R
      by_cases hl : R.length < 12
      · rw [if_pos hl] at h; cases h
      · rw [if_neg hl] at h
        have e1 := take_of (L := R) (k := 6) (by omega)
        have e2 := take_of (L := R.drop 6) (k := 6) (by rw [List.length_drop]; omega)
        rw [List.drop_drop] at e2
        have b1 := Bit.val_take_lt R 6
        have b2 := Bit.val_take_lt (R.drop 6) 6
        generalize Bit.val (R.take 6) = ld at *
        generalize Bit.val ((R.drop 6).take 6) = ls at *
        by_cases h63 : 63 < ld + ls
        · rw [if_pos h63] at h; cases h
        · rw [if_neg h63] at h
          by_cases hl2 : R.length < 12 + (ls + 1)
          · rw [if_pos hl2] at h; cases h
          · rw [if_neg hl2] at h
            have e3 := take_of (L := R.drop 12) (k := ls + 1) (by rw [List.length_drop]; omega)
            rw [List.drop_drop] at e3
            have b3 := Bit.val_take_lt (R.drop 12) (ls + 1)
            have hx := mul_lt (b := 63 - ld - ls) b3 (by omega)
            generalize Bit.val ((R.drop 12).take (ls + 1)) = q at *
            by_cases hc : lead (q * 2 ^ (63 - ld - ls)) = ld ∧ trail (q * 2 ^ (63 - ld - ls)) = 63 - ld - ls ∧ way s (q * 2 ^ (63 - ld - ls)) = 3
            · rw [if_pos hc] at h
              obtain rfl := Option.some.inj h
              obtain ⟨c1, c2, c3⟩ := hc
              have hnx : s.next (q * 2 ^ (63 - ld - ls) ^^^ s.v) = ⟨s.n + 1, q * 2 ^ (63 - ld - ls) ^^^ s.v, ld, 63 - ld - ls⟩ := by
                unfold S.next; rw [xor_back, if_pos c3, c1, c2]
              have hwin : (⟨s.n + 1, q * 2 ^ (63 - ld - ls) ^^^ s.v, ld, 63 - ld - ls⟩ : S).win = ls + 1 := by show 64 - ld - (63 - ld - ls) = _; omega
              unfold S.code S.cost
              rw [hnx, xor_back, c3, hwin]
              refine ⟨?_, by show 14 + (ls + 1) ≤ R.length + 1 + 1; omega, xor_lt hx hok.v⟩
              show true :: true :: R = Bit.of 3 2 ++ Bit.of ld 6 ++ Bit.of ls 6 ++ Bit.of (q * 2 ^ (63 - ld - ls) / 2 ^ (63 - ld - ls)) (ls + 1) ++ (true :: true :: R).drop (14 + (ls + 1))
              rw [Nat.mul_div_cancel _ (Nat.two_pow_pos _), show 14 + (ls + 1) = (12 + (ls + 1)) + 1 + 1 from by omega]
              show true :: true :: R = [true, true] ++ Bit.of ld 6 ++ Bit.of ls 6 ++ Bit.of q (ls + 1) ++ R.drop (12 + (ls + 1))
              rw [List.append_assoc, ← e3, List.append_assoc, ← e2, List.append_assoc, ← e1]; rfl
            · rw [if_neg hc] at h; cases h
theorem S.got_code {s : S} (hok : s.ok) (v : Nat) (hv : v < 18446744073709551616) (R : List Bool) : s.got (s.code v ++ R) = some v := by
  have hx := xor_lt hv hok.v
  have hxx : v ^^^ s.v ^^^ s.v = v := xor_back _ _
  have e64 : (2 : Nat) ^ 64 = 18446744073709551616 := by decide
  unfold S.got S.code
  generalize hxe : v ^^^ s.v = x at *
  by_cases hn : s.n = 0
  · have hw : way s x = 0 := way_zero.2 hn
    simp only [hn, hw, if_true]
    rw [if_neg (by rw [List.length_append, Bit.of_length]; omega), List.take_append_of_le_length (by rw [Bit.of_length]; omega), List.take_of_length_le (by rw [Bit.of_length]; omega), Bit.val_of, Nat.mod_eq_of_lt (by omega)]
  · have hw0 : way s x ≠ 0 := fun h => hn (way_zero.1 h)
    simp only [hn, hw0, if_false]
    by_cases h1 : way s x = 1
    · simp only [h1, if_true]
      show some s.v = some v
      have : x = 0 := (way_one.1 h1).2
      rw [this, Nat.zero_xor] at hxx
      rw [hxx]
    · by_cases h2 : way s x = 2
      · obtain ⟨_, hx0, h64, hl, ht⟩ := way_two.1 h2
        have hwin : s.win + s.t + s.l = 64 := by have := hok.w; unfold S.win; omega
        obtain ⟨g1, g2, g3⟩ := ends hx hx0
        have hdiv : x / 2 ^ s.t * 2 ^ s.t = x := by
          have : 2 ^ s.t ∣ x := by
            rw [g3]; exact Nat.dvd_trans (Nat.pow_dvd_pow 2 ht) (Nat.dvd_mul_left _ _)
          exact Nat.div_mul_cancel this
        have hlt : x / 2 ^ s.t < 2 ^ s.win := by
          have : x < 2 ^ (64 - s.l) := Nat.lt_of_lt_of_le g2 (Bit.two_pow_le (by omega))
          rw [show 64 - s.l = s.t + s.win from by omega, Nat.pow_add] at this
          exact Nat.div_lt_of_lt_mul this
        simp only [h2, if_true]
        show (if s.l = 64 then none else if (Bit.of (x / 2 ^ s.t) s.win ++ R).length < s.win then none else
          if way s (Bit.val ((Bit.of (x / 2 ^ s.t) s.win ++ R).take s.win) * 2 ^ s.t) = 2 then some (Bit.val ((Bit.of (x / 2 ^ s.t) s.win ++ R).take s.win) * 2 ^ s.t ^^^ s.v) else none) = some v
        have htk : (Bit.of (x / 2 ^ s.t) s.win ++ R).take s.win = Bit.of (x / 2 ^ s.t) s.win := by
          rw [List.take_append_of_le_length (by rw [Bit.of_length]; omega), List.take_of_length_le (by rw [Bit.of_length]; omega)]
        rw [if_neg h64, if_neg (by rw [List.length_append, Bit.of_length]; omega), htk, Bit.val_of, Nat.mod_eq_of_lt hlt, hdiv, if_pos h2, hxx]
      · have h3 : way s x = 3 := by have := way_lt s x; omega
        obtain ⟨_, hx0⟩ := way_three h3
        obtain ⟨g1, g2, g3⟩ := ends hx hx0
        have hnx : s.next v = ⟨s.n + 1, v, lead x, trail x⟩ := by unfold S.next; rw [hxe, if_pos h3]
        simp only [h1, if_false, h2, hnx]
        have hwin : (⟨s.n + 1, v, lead x, trail x⟩ : S).win = 64 - lead x - trail x := rfl
        rw [hwin]
        generalize hld : lead x = ld at *
        generalize htr : trail x = tr at *
        have hls : 64 - ld - tr - 1 = 63 - ld - tr := by omega
        rw [hls]
        have hlt : x / 2 ^ tr < 2 ^ (64 - ld - tr) := by
          rw [show 64 - ld = tr + (64 - ld - tr) from by omega, Nat.pow_add] at g2
          exact Nat.div_lt_of_lt_mul g2
        generalize hT : Bit.of (x / 2 ^ tr) (64 - ld - tr) ++ R = T
        have hTl : 64 - ld - tr ≤ T.length := by rw [← hT, List.length_append, Bit.of_length]; omega
        have hlist : Bit.of 3 2 ++ Bit.of ld 6 ++ Bit.of (63 - ld - tr) 6 ++ Bit.of (x / 2 ^ tr) (64 - ld - tr) ++ R = true :: true :: (Bit.of ld 6 ++ (Bit.of (63 - ld - tr) 6 ++ T)) := by
          rw [← hT]; simp only [List.append_assoc]; rfl
        rw [hlist]
        have v1 : Bit.val ((Bit.of ld 6 ++ (Bit.of (63 - ld - tr) 6 ++ T)).take 6) = ld := by
          rw [List.take_append_of_le_length (by rw [Bit.of_length]; omega), List.take_of_length_le (by rw [Bit.of_length]; omega), Bit.val_of, Nat.mod_eq_of_lt (by show ld < 64; omega)]
        have d1 : (Bit.of ld 6 ++ (Bit.of (63 - ld - tr) 6 ++ T)).drop 6 = Bit.of (63 - ld - tr) 6 ++ T := by
          rw [List.drop_append_of_le_length (by rw [Bit.of_length]; omega), List.drop_of_length_le (by rw [Bit.of_length]; omega), List.nil_append]
        have v2 : Bit.val ((Bit.of (63 - ld - tr) 6 ++ T).take 6) = 63 - ld - tr := by
          rw [List.take_append_of_le_length (by rw [Bit.of_length]; omega), List.take_of_length_le (by rw [Bit.of_length]; omega), Bit.val_of, Nat.mod_eq_of_lt (by show 63 - ld - tr < 64; omega)]
        have d2 : (Bit.of ld 6 ++ (Bit.of (63 - ld - tr) 6 ++ T)).drop 12 = T := by
          rw [show 12 = 6 + 6 from rfl, ← List.drop_drop, d1, List.drop_append_of_le_length (by rw [Bit.of_length]; omega), List.drop_of_length_le (by rw [Bit.of_length]; omega), List.nil_append]
        have v3 : Bit.val (T.take (63 - ld - tr + 1)) = x / 2 ^ tr := by
          rw [← hT, show 63 - ld - tr + 1 = 64 - ld - tr from by omega, List.take_append_of_le_length (by rw [Bit.of_length]; omega), List.take_of_length_le (by rw [Bit.of_length]; omega), Bit.val_of, Nat.mod_eq_of_lt hlt]
        have hll : (Bit.of ld 6 ++ (Bit.of (63 - ld - tr) 6 ++ T)).length = 12 + T.length := by simp only [List.length_append, Bit.of_length]; omega
        simp only [v1, d1, v2, d2, v3, hll]
        rw [if_neg (by omega), if_neg (by omega), if_neg (by omega), show 63 - ld - (63 - ld - tr) = tr from by omega, ← g3, hld, htr, if_pos ⟨rfl, rfl, h3⟩, hxx]
end Va
end Go.Proofs.YtfgcgjogaaofdaaGreatDoor
