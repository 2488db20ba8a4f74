/-
  The plain mathematics of bits, one behind the other, eight a byte, the first one the highest.
-/
namespace Go.Proofs.YtfgcgjogaaofdaaGreatDoor
namespace Bit

/-- bits as a number, the first one the highest -/
def val : List Bool → Nat
  | [] => 0
  | b :: r => b.toNat * 2 ^ r.length + val r
/-- the low n bits of v, the highest first -/
def of (v : Nat) : Nat → List Bool
  | 0 => []
  | n + 1 => v.testBit n :: of v n
theorem of_length (v n : Nat) : (of v n).length = n := by
  induction n with
  | zero => rfl
  | succ n ih => simp [of, ih]
theorem val_append (a b : List Bool) : val (a ++ b) = val a * 2 ^ b.length + val b := by
  induction a with
  | nil => simp [val]
  | cons x a ih =>
    simp only [List.cons_append, val, ih, List.length_append, Nat.pow_add, Nat.add_mul, Nat.mul_assoc, Nat.add_assoc]
theorem val_lt (l : List Bool) : val l < 2 ^ l.length := by
  induction l with
  | nil => simp [val]
  | cons x l ih =>
    simp only [val, List.length_cons, Nat.pow_succ]
    cases x <;> simp <;> omega
theorem val_of (v n : Nat) : val (of v n) = v % 2 ^ n := by
  induction n with
  | zero => simp [of, val, Nat.mod_one]
  | succ n ih =>
    simp only [of, val, of_length, ih]
    rw [Nat.mod_pow_succ, Nat.testBit_eq_decide_div_mod_eq]
    have h2 : v / 2 ^ n % 2 < 2 := Nat.mod_lt _ (by decide)
    rcases Nat.lt_or_ge (v / 2 ^ n % 2) 1 with h | h
    · have e : v / 2 ^ n % 2 = 0 := by omega
      simp [e]
    · have e : v / 2 ^ n % 2 = 1 := by omega
      simp [e, Nat.add_comm]
theorem of_val : ∀ l : List Bool, of (val l) l.length = l
  | [] => rfl
  | x :: l => by
    have hl := val_lt l
    have h1 : (val (x :: l)).testBit l.length = x := by
      simp only [val]
      rw [Nat.mul_comm, Nat.testBit_two_pow_mul_add _ hl]
      cases x <;> simp
    have h2 : ∀ k, k ≤ l.length → of (val (x :: l)) k = of (val l) k := by
      intro k
      induction k with
      | zero => intro _; rfl
      | succ k ih =>
        intro hk
        simp only [of]
        rw [ih (by omega)]
        congr 1
        simp only [val]
        rw [Nat.mul_comm, Nat.testBit_two_pow_mul_add _ hl, if_pos (by omega)]
    show (val (x :: l)).testBit l.length :: of (val (x :: l)) l.length = x :: l
    rw [h1, h2 _ (Nat.le_refl _), of_val l]
theorem of_append (v a b : Nat) : of v (a + b) = of (v / 2 ^ b) a ++ of v b := by
  induction a with
  | zero => simp [of]
  | succ a ih =>
    rw [show a + 1 + b = (a + b) + 1 from by omega]
    simp only [of, List.cons_append]
    rw [ih]
    congr 1
    rw [Nat.testBit_div_two_pow]
theorem of_mod (v k : Nat) : ∀ n, n ≤ k → of (v % 2 ^ k) n = of v n := by
  intro n
  induction n with
  | zero => intro _; rfl
  | succ n ih =>
    intro h
    simp only [of]
    rw [ih (by omega), Nat.testBit_mod_two_pow]
    simp [show n < k from by omega]
theorem of_inj (a b n : Nat) (h : of a n = of b n) : a % 2 ^ n = b % 2 ^ n := by
  rw [← val_of, ← val_of, h]

/-! as bytes -/
/-- the byte at place j -/
def at_ (B : List Bool) (j : Nat) : Nat := val ((B.drop (8 * j)).take 8) * 2 ^ (8 - ((B.drop (8 * j)).take 8).length)
def size (B : List Bool) : Nat := (B.length + 7) / 8
def pack (B : List Bool) : List UInt8 := (List.range (size B)).map fun j => UInt8.ofNat (at_ B j)
theorem at_lt (B : List Bool) (j : Nat) : at_ B j < 256 := by
  unfold at_
  have h := val_lt ((B.drop (8 * j)).take 8)
  have hl : ((B.drop (8 * j)).take 8).length ≤ 8 := by simp; omega
  generalize (B.drop (8 * j)).take 8 = c at *
  have e : (256 : Nat) = 2 ^ c.length * 2 ^ (8 - c.length) := by
    rw [← Nat.pow_add, show c.length + (8 - c.length) = 8 from by omega]
  rw [e]
  exact Nat.mul_lt_mul_of_pos_right h (Nat.two_pow_pos _)
theorem pack_length (B : List Bool) : (pack B).length = size B := by simp [pack]
theorem pack_get (B : List Bool) (j : Nat) (h : j < size B) : (pack B)[j]? = some (UInt8.ofNat (at_ B j)) := by
  simp [pack, h]
/-- bits behind others, within one byte -/
theorem at_append_same (B C : List Bool) (j : Nat) (hj : j < B.length / 8) : at_ (B ++ C) j = at_ B j := by
  have e : ((B ++ C).drop (8 * j)).take 8 = (B.drop (8 * j)).take 8 := by
    rw [List.drop_append_of_le_length (by omega), List.take_append_of_le_length (by simp; omega)]
  unfold at_; rw [e]
theorem at_append (B C : List Bool) (hC : C.length ≤ 8 - B.length % 8) : at_ (B ++ C) (B.length / 8) = at_ B (B.length / 8) + val C * 2 ^ (8 - B.length % 8 - C.length) := by
  have hd : 8 * (B.length / 8) ≤ B.length := by omega
  have hlen : (B.drop (8 * (B.length / 8))).length = B.length % 8 := by simp; omega
  unfold at_
  rw [List.drop_append_of_le_length hd]
  generalize B.drop (8 * (B.length / 8)) = D at *
  have e1 : (D ++ C).take 8 = D ++ C := List.take_of_length_le (by simp; omega)
  have e2 : D.take 8 = D := List.take_of_length_le (by omega)
  rw [e1, e2, val_append, List.length_append, hlen, Nat.add_mul]
  congr 1
  · rw [Nat.mul_assoc, ← Nat.pow_add]
    congr 2
    omega
  · congr 2
    omega
/-- the byte that is begun ends in bits 0 -/
theorem at_low (B : List Bool) : at_ B (B.length / 8) % 2 ^ (8 - B.length % 8) = 0 := by
  have hlen : (B.drop (8 * (B.length / 8))).length = B.length % 8 := by simp; omega
  unfold at_
  generalize B.drop (8 * (B.length / 8)) = D at *
  have e2 : D.take 8 = D := List.take_of_length_le (by omega)
  rw [e2, hlen, Nat.mul_mod_left]

/-- the bits of bytes -/
def un (s : List UInt8) : List Bool := s.flatMap fun b => of b.toNat 8
theorem un_length (s : List UInt8) : (un s).length = 8 * s.length := by
  induction s with
  | nil => rfl
  | cons b s ih =>
    show (of b.toNat 8 ++ un s).length = _
    rw [List.length_append, of_length, ih, List.length_cons]; omega
theorem un_drop (s : List UInt8) (j : Nat) : (un s).drop (8 * j) = un (s.drop j) := by
  induction s generalizing j with
  | nil => simp [un]
  | cons b s ih =>
    cases j with
    | zero => simp
    | succ j =>
      show (of b.toNat 8 ++ un s).drop (8 * (j + 1)) = un (s.drop j)
      rw [← ih j, show 8 * (j + 1) = (of b.toNat 8).length + 8 * j from by rw [of_length]; omega, List.drop_append]
      simp
/-- bits from within one byte -/
theorem val_mid (v a m : Nat) (h : a + m ≤ 8) : val (((of v 8).drop a).take m) = v / 2 ^ (8 - a - m) % 2 ^ m := by
  have e : of v 8 = of (v / 2 ^ (8 - a)) a ++ (of (v / 2 ^ (8 - a - m)) m ++ of v (8 - a - m)) := by
    have h1 : (8 : Nat) = a + (8 - a) := by omega
    conv => lhs; rw [h1]
    rw [of_append]
    congr 1
    have h2 : 8 - a = m + (8 - a - m) := by omega
    conv => lhs; rw [h2]
    rw [of_append]
  rw [e, List.drop_append_of_le_length (by rw [of_length]; omega)]
  rw [List.drop_of_length_le (by rw [of_length]; omega), List.nil_append]
  rw [List.take_append_of_le_length (by rw [of_length]; omega), List.take_of_length_le (by rw [of_length]; omega), val_of]
theorem un_mid (s : List UInt8) (p m : Nat) (hp : p / 8 < s.length) (h : p % 8 + m ≤ 8) :
    val (((un s).drop p).take m) = (s[p / 8]).toNat / 2 ^ (8 - p % 8 - m) % 2 ^ m := by
  have e1 : (un s).drop p = (un (s.drop (p / 8))).drop (p % 8) := by
    rw [← un_drop, List.drop_drop]
    congr 1; omega
  have e2 : s.drop (p / 8) = s[p / 8] :: s.drop (p / 8 + 1) := by rw [List.drop_eq_getElem_cons hp]
  rw [e1, e2]
  show val (((of (s[p / 8]).toNat 8 ++ un (s.drop (p / 8 + 1))).drop (p % 8)).take m) = _
  rw [List.drop_append_of_le_length (by rw [of_length]; omega), List.take_append_of_le_length (by simp [of_length]; omega), val_mid _ _ _ h]
theorem at_succ (B : List Bool) (j : Nat) : at_ B (j + 1) = at_ (B.drop 8) j := by
  unfold at_
  rw [List.drop_drop, show 8 * (j + 1) = 8 + 8 * j from by omega]
theorem pack_cons (B : List Bool) (h : 0 < B.length) : pack B = UInt8.ofNat (at_ B 0) :: pack (B.drop 8) := by
  have e : size B = size (B.drop 8) + 1 := by simp [size]; omega
  unfold pack
  rw [e, List.range_succ_eq_map, List.map_cons, List.map_map]
  congr 1
  apply List.map_congr_left
  intro j _
  simp [at_succ]
theorem pack_nil : pack [] = [] := rfl
theorem of_shift (c : List Bool) (k : Nat) : of (val c * 2 ^ k) (c.length + k) = c ++ List.replicate k false := by
  rw [of_append, Nat.mul_div_cancel _ (Nat.two_pow_pos k), of_val]
  congr 1
  induction k generalizing c with
  | zero => rfl
  | succ k ih =>
    have h1 : (val c * 2 ^ (k + 1)).testBit k = false := by
      rw [Nat.testBit_mul_two_pow]; simp; omega
    have h2 := ih (c ++ [false])
    rw [val_append] at h2
    simp only [List.length_cons, List.length_nil, val, Bool.toNat_false, Nat.zero_mul, Nat.add_zero, Nat.zero_add, Nat.pow_one] at h2
    rw [Nat.mul_assoc, ← Nat.pow_succ'] at h2
    simp only [of, h1, List.replicate_succ]
    rw [h2]
theorem un_pack_aux : ∀ (n : Nat) (B : List Bool), B.length ≤ n → un (pack B) = B ++ List.replicate (8 * size B - B.length) false
  | 0, B, h => by
    obtain rfl : B = [] := List.length_eq_zero_iff.1 (by omega)
    rfl
  | n + 1, B, h => by
    rcases Nat.eq_zero_or_pos B.length with h0 | hp
    · obtain rfl : B = [] := List.length_eq_zero_iff.1 h0
      rfl
    · rw [pack_cons B hp]
      show of (UInt8.ofNat (at_ B 0)).toNat 8 ++ un (pack (B.drop 8)) = _
      rw [un_pack_aux n (B.drop 8) (by simp; omega)]
      have hb := at_lt B 0
      have e0 : (UInt8.ofNat (at_ B 0)).toNat = at_ B 0 := by simp; omega
      rw [e0]
      have ha : at_ B 0 = val (B.take 8) * 2 ^ (8 - (B.take 8).length) := by simp [at_]
      rw [ha]
      rcases Nat.lt_or_ge B.length 8 with hs | hs
      · have e1 : B.take 8 = B := List.take_of_length_le (by omega)
        have e2 : B.drop 8 = [] := List.drop_of_length_le (by omega)
        have e3 : size B = 1 := by simp [size]; omega
        have h8 := of_shift B (8 - B.length)
        rw [show B.length + (8 - B.length) = 8 from by omega] at h8
        rw [e1, e2, e3, h8]
        simp [size]
      · have e1 : (B.take 8).length = 8 := by simp; omega
        have h8 := of_shift (B.take 8) 0
        rw [e1] at h8
        rw [e1, h8]
        have e4 : 8 * size (B.drop 8) - (B.drop 8).length = 8 * size B - B.length := by simp [size]; omega
        rw [e4]
        simp only [List.replicate_zero, List.append_nil]
        rw [← List.append_assoc, List.take_append_drop]
theorem un_pack (B : List Bool) : un (pack B) = B ++ List.replicate (8 * size B - B.length) false := un_pack_aux _ B (Nat.le_refl _)
end Bit
end Go.Proofs.YtfgcgjogaaofdaaGreatDoor
