/-
  The plain mathematics of small numbers: seven bits a byte, the lowest first; and back.
-/
namespace Go.Proofs.YtokofifecdpmfaaGreatDoor
namespace Num

/-- a number by seven bits a byte; f: how many bytes more there may be -/
def enc : Nat → Nat → List UInt8
  | 0, n => [UInt8.ofNat n]
  | f + 1, n => if 128 ≤ n then UInt8.ofNat (n % 128 + 128) :: enc f (n / 128) else [UInt8.ofNat n]
def small (n : Nat) : List UInt8 := enc 9 n
/-- what bytes begin with, behind i bytes that came to v: the number, and how many bytes -/
def dec (i v : Nat) : List UInt8 → Option (Nat × Nat)
  | [] => none
  | b :: r =>
    if 10 ≤ i ∨ (i = 9 ∧ 1 < b.toNat) then none
    else if b.toNat < 128 then (if b.toNat ≠ 0 ∨ i = 0 then some (v + b.toNat % 128 * 128 ^ i, i + 1) else none)
    else dec (i + 1) (v + b.toNat % 128 * 128 ^ i) r

theorem enc_length_pos (f n : Nat) : 1 ≤ (enc f n).length := by
  cases f with
  | zero => simp [enc]
  | succ f => unfold enc; split <;> simp
theorem enc_length_le (f : Nat) : ∀ n, (enc f n).length ≤ f + 1 := by
  induction f with
  | zero => intro n; simp [enc]
  | succ f ih => intro n; unfold enc; split <;> simp; exact ih _
theorem enc_mono (f : Nat) : ∀ a b, a ≤ b → (enc f a).length ≤ (enc f b).length := by
  induction f with
  | zero => intro a b _; simp [enc]
  | succ f ih =>
    intro a b h
    unfold enc
    by_cases ha : 128 ≤ a
    · rw [if_pos ha, if_pos (by omega)]
      simp only [List.length_cons]
      have := ih (a / 128) (b / 128) (by omega)
      omega
    · rw [if_neg ha]
      split
      · simp
      · simp
theorem enc_short (f : Nat) : ∀ (i n : Nat), n < 128 ^ i → 1 ≤ i → (enc f n).length ≤ i := by
  induction f with
  | zero => intro i n _ h1; simp [enc]; omega
  | succ f ih =>
    intro i n h h1
    unfold enc
    split
    · rename_i hn
      have h2 : 2 ≤ i := by
        rcases Nat.lt_or_ge i 2 with h3 | h3
        · obtain rfl : i = 1 := by omega
          simp at h; omega
        · exact h3
      have hd : n / 128 < 128 ^ (i - 1) := by
        rw [Nat.div_lt_iff_lt_mul (by decide), ← Nat.pow_succ, show (i - 1).succ = i from by omega]; exact h
      have := ih (i - 1) (n / 128) hd (by omega)
      simp only [List.length_cons]; omega
    · simp; omega

theorem pow_split (i : Nat) (h : i ≤ 8) : 128 ^ (9 - i) = 128 * 128 ^ (9 - (i + 1)) := by
  rw [show 9 - i = (9 - (i + 1)) + 1 from by omega, Nat.pow_succ, Nat.mul_comm]
/-- what was written is read -/
theorem dec_enc (rest : List UInt8) : ∀ (k i v m : Nat), k + i = 9 → m < 2 * 128 ^ k → (m ≠ 0 ∨ i = 0) →
    dec i v (enc k m ++ rest) = some (v + m * 128 ^ i, i + (enc k m).length) := by
  intro k
  induction k with
  | zero =>
    intro i v m hk hm h0
    have hm2 : m < 2 := by simpa using hm
    have e : (UInt8.ofNat m).toNat = m := by simp; omega
    show dec i v (UInt8.ofNat m :: rest) = _
    unfold dec
    rw [e, if_neg (by omega), if_pos (by omega), if_pos h0, Nat.mod_eq_of_lt (by omega)]
    simp [enc]
  | succ k ih =>
    intro i v m hk hm h0
    by_cases hc : 128 ≤ m
    · have e : (UInt8.ofNat (m % 128 + 128)).toNat = m % 128 + 128 := by simp; omega
      have he : enc (k + 1) m = UInt8.ofNat (m % 128 + 128) :: enc k (m / 128) := by rw [enc, if_pos hc]
      rw [he, List.cons_append]
      unfold dec
      rw [e, if_neg (by omega), if_neg (by omega)]
      have hm' : m / 128 < 2 * 128 ^ k := by rw [Nat.pow_succ] at hm; omega
      rw [ih (i + 1) _ (m / 128) (by omega) hm' (.inl (by omega))]
      have e2 : v + (m % 128 + 128) % 128 * 128 ^ i + m / 128 * 128 ^ (i + 1) = v + m * 128 ^ i := by
        have h1 : (m % 128 + 128) % 128 = m % 128 := by omega
        rw [h1, Nat.pow_succ, Nat.add_assoc]
        congr 1
        have h2 : m / 128 * (128 ^ i * 128) = m / 128 * 128 * 128 ^ i := by rw [Nat.mul_comm (128 ^ i), Nat.mul_assoc]
        rw [h2, ← Nat.add_mul]
        congr 1
        omega
      rw [e2]
      simp; omega
    · have e : (UInt8.ofNat m).toNat = m := by simp; omega
      have he : enc (k + 1) m = [UInt8.ofNat m] := by rw [enc, if_neg hc]
      rw [he]
      show dec i v (UInt8.ofNat m :: rest) = _
      unfold dec
      rw [e, if_neg (by omega), if_pos (by omega), if_pos h0, Nat.mod_eq_of_lt (by omega)]
      simp
/-- nothing else is read -/
theorem enc_dec : ∀ (l : List UInt8) (i v n k : Nat), dec i v l = some (n, k) →
    ∃ m, n = v + m * 128 ^ i ∧ i < k ∧ k ≤ i + l.length ∧ i ≤ 9 ∧ enc (9 - i) m = l.take (k - i) ∧ m < 2 * 128 ^ (9 - i) ∧ (m ≠ 0 ∨ i = 0)
  | [], _, _, _, _, h => by simp [dec] at h
  | b :: r, i, v, n, k, h => by
    have hb := b.toNat_lt
    unfold dec at h
    split at h
    · simp at h
    · rename_i hi
      have hi9 : i ≤ 9 := by omega
      split at h
      · rename_i hlt
        split at h
        · rename_i h0
          simp only [Option.some.injEq, Prod.mk.injEq] at h
          obtain ⟨rfl, rfl⟩ := h
          refine ⟨b.toNat, by rw [Nat.mod_eq_of_lt hlt], by omega, by simp, hi9, ?_, ?_, h0⟩
          · rw [show i + 1 - i = 1 from by omega]
            cases hk : 9 - i with
            | zero => simp [enc]
            | succ f => rw [enc, if_neg (by omega)]; simp
          · rcases Nat.lt_or_ge i 9 with h9 | h9
            · have : 128 ^ 1 ≤ 128 ^ (9 - i) := Nat.pow_le_pow_right (by decide) (by omega)
              omega
            · obtain rfl : i = 9 := by omega
              simp; omega
        · simp at h
      · rename_i hge
        obtain ⟨m, h1, h2, h3, h4, h5, h6, h7⟩ := enc_dec r (i + 1) _ n k h
        have hm0 : m ≠ 0 := by omega
        have hk : 9 - i = (9 - (i + 1)) + 1 := by omega
        refine ⟨b.toNat % 128 + 128 * m, ?_, by omega, by simp; omega, hi9, ?_, ?_, .inl (by omega)⟩
        · rw [h1, Nat.pow_succ, Nat.add_assoc]
          congr 1
          rw [Nat.add_mul]
          congr 1
          rw [Nat.mul_comm (128 ^ i), ← Nat.mul_assoc, Nat.mul_comm m]
        · rw [hk, enc, if_pos (by omega), show k - i = (k - (i + 1)) + 1 from by omega, List.take_succ_cons]
          congr 1
          · have e : (b.toNat % 128 + 128 * m) % 128 + 128 = b.toNat := by omega
            rw [e]; simp
          · rw [show (b.toNat % 128 + 128 * m) / 128 = m from by omega]; exact h5
        · rw [hk, Nat.pow_succ]; omega
/-- what is told of bytes: the number, how many bytes, and whether they are right -/
def decp (i v : Nat) : List UInt8 → Nat × Nat × Bool
  | [] => (0, 0, false)
  | b :: r =>
    if 10 ≤ i ∨ (i = 9 ∧ 1 < b.toNat) then (0, 0, false)
    else if b.toNat < 128 then (v + b.toNat % 128 * 128 ^ i, i + 1, decide (b.toNat ≠ 0 ∨ i = 0))
    else decp (i + 1) (v + b.toNat % 128 * 128 ^ i) r
theorem decp_dec : ∀ (l : List UInt8) (i v : Nat), dec i v l = if (decp i v l).2.2 = true then some ((decp i v l).1, (decp i v l).2.1) else none
  | [], i, v => by simp [dec, decp]
  | b :: r, i, v => by
    unfold dec decp
    split
    · simp
    · split
      · split <;> simp_all
      · exact decp_dec r (i + 1) _
/-- a text's first bytes as a number -/
def get (l : List UInt8) : Option (Nat × Nat) := dec 0 0 l
theorem get_small (n : Nat) (hn : n < 18446744073709551616) (rest : List UInt8) : get (small n ++ rest) = some (n, (small n).length) := by
  have h := dec_enc rest 9 0 0 n rfl (by simp; omega) (.inr rfl)
  unfold get small
  rw [h]; simp
theorem small_get (l : List UInt8) (n k : Nat) (h : get l = some (n, k)) : small n = l.take k ∧ 1 ≤ k ∧ k ≤ l.length ∧ n < 18446744073709551616 := by
  obtain ⟨m, h1, h2, h3, _, h5, h6, _⟩ := enc_dec l 0 0 n k h
  have e : n = m := by rw [h1]; simp
  subst e
  refine ⟨by unfold small; simpa using h5, by omega, by omega, by simpa using h6⟩
theorem decp_lt : ∀ (l : List UInt8) (i v : Nat), v < 128 ^ i → i ≤ 9 → (decp i v l).1 < 18446744073709551616
  | [], _, _, _, _ => by simp [decp]
  | b :: r, i, v, hv, hi => by
    have hb := b.toNat_lt
    unfold decp
    split
    · simp
    · rename_i hc
      rcases Nat.lt_or_ge i 9 with h9 | h9
      · have hs : v + b.toNat % 128 * 128 ^ i < 128 ^ (i + 1) := by
          have h1 : b.toNat % 128 * 128 ^ i ≤ 127 * 128 ^ i := Nat.mul_le_mul_right _ (by omega)
          rw [Nat.pow_succ]; omega
        split
        · have h2 : 128 ^ (i + 1) ≤ 128 ^ 9 := Nat.pow_le_pow_right (by decide) (by omega)
          show v + b.toNat % 128 * 128 ^ i < _
          omega
        · exact decp_lt r (i + 1) _ hs (by omega)
      · obtain rfl : i = 9 := by omega
        have hb1 : b.toNat ≤ 1 ∨ 128 ≤ b.toNat := by omega
        split
        · have h1 : b.toNat % 128 * 128 ^ 9 ≤ 1 * 128 ^ 9 := Nat.mul_le_mul_right _ (by omega)
          show v + b.toNat % 128 * 128 ^ 9 < _
          omega
        · cases r with
          | nil => simp [decp]
          | cons c r => simp [decp]
theorem decp_snd : ∀ (l : List UInt8) (i v : Nat), (decp i v l).2.1 ≤ i + l.length
  | [], _, _ => by simp [decp]
  | b :: r, i, v => by
    unfold decp
    split
    · simp
    · split
      · simp
      · have := decp_snd r (i + 1) (v + b.toNat % 128 * 128 ^ i)
        simp only [List.length_cons]; omega
end Num
end Go.Proofs.YtokofifecdpmfaaGreatDoor
