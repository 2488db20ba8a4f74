/-
  The mathematics of names: digits, and what is cut.
-/
import Derived.Test.YtokofifecdpmfaaDoorMeQ
namespace Go.Proofs.YtokofifecdpmfaaDoor
open Go.RowKit
namespace Me
/-- k digits of a number -/
def dig : Nat → Nat → List UInt8
  | 0, _ => []
  | k + 1, n => dig k (n / 10) ++ [UInt8.ofNat (48 + n % 10)]
theorem dig_length : ∀ k n, (dig k n).length = k
  | 0, _ => rfl
  | k + 1, n => by simp [dig, dig_length k]
theorem dig_zero : ∀ k, dig k 0 = List.replicate k 48
  | 0 => rfl
  | k + 1 => by
    rw [dig, show (0 : Nat) / 10 = 0 from rfl, dig_zero k]
    rw [List.replicate_succ']
    rfl
theorem pad_dig : ∀ (k n : Nat), 1 ≤ k → n < 10 ^ k → List.replicate (k - (Lib.decDigits n).length) 48 ++ Lib.decDigits n = dig k n
  | 0, _, h, _ => by omega
  | k + 1, n, _, h => by
    by_cases h10 : n < 10
    · rw [Lib.decDigits_one h10, dig, show n / 10 = 0 by omega, dig_zero, show n % 10 = n by omega]
      simp
    · have hk : 1 ≤ k := by
        rcases Nat.eq_zero_or_pos k with rfl | h0
        · exact absurd h (by simpa using h10)
        · exact h0
      have hd : Lib.decDigits n = Lib.decDigits (n / 10) ++ [UInt8.ofNat (48 + n % 10)] := by
        conv => lhs; rw [Lib.decDigits]
        rw [dif_neg h10]
      have ih := pad_dig k (n / 10) hk (by rw [Nat.div_lt_iff_lt_mul (by omega), ← Nat.pow_succ]; exact h)
      rw [hd, dig, ← ih, List.length_append, List.length_singleton, Nat.add_sub_add_right, List.append_assoc]
theorem pad_eq (n : Nat) (h : n ≤ 999999) : pad n = dig 6 n := pad_dig 6 n (by omega) (by omega)
theorem digit_nat (d : Nat) (h : d < 10) : (UInt8.ofNat (48 + d)).toNat = 48 + d := by simp; omega
theorem digit_inj (a b : Nat) (ha : a < 10) (hb : b < 10) (h : UInt8.ofNat (48 + a) = UInt8.ofNat (48 + b)) : a = b := by
  have := congrArg UInt8.toNat h
  rw [digit_nat a ha, digit_nat b hb] at this
  omega
theorem dig_inj : ∀ (k a b : Nat), a < 10 ^ k → b < 10 ^ k → dig k a = dig k b → a = b
  | 0, a, b, ha, hb, _ => by simp at ha hb; omega
  | k + 1, a, b, ha, hb, h => by
    simp only [dig] at h
    have hl : (dig k (a / 10)).length = (dig k (b / 10)).length := by rw [dig_length, dig_length]
    obtain ⟨h1, h2⟩ := List.append_inj h hl
    have e1 := dig_inj k (a / 10) (b / 10) (by rw [Nat.div_lt_iff_lt_mul (by omega), ← Nat.pow_succ]; exact ha) (by rw [Nat.div_lt_iff_lt_mul (by omega), ← Nat.pow_succ]; exact hb) h1
    have e2 := digit_inj (a % 10) (b % 10) (by omega) (by omega) (List.cons.inj h2).1
    omega
theorem bl_irrefl : ∀ a : List UInt8, Op.bytesLess a a = false
  | [] => rfl
  | x :: a => by
    have e : Op.bytesLess (x :: a) (x :: a) = (decide (x < x) || (x == x && Op.bytesLess a a)) := rfl
    rw [e, bl_irrefl a]; simp
theorem bl_same (x : UInt8) (a b : List UInt8) : Op.bytesLess (x :: a) (x :: b) = Op.bytesLess a b := by
  have e : Op.bytesLess (x :: a) (x :: b) = (decide (x < x) || (x == x && Op.bytesLess a b)) := rfl
  rw [e]; simp
theorem bl_pre : ∀ (p a b : List UInt8), Op.bytesLess (p ++ a) (p ++ b) = Op.bytesLess a b
  | [], a, b => rfl
  | x :: p, a, b => by rw [List.cons_append, List.cons_append, bl_same, bl_pre p]
/-- of rows that are as long: what is ahead decides, unless it is alike -/
theorem bl_app : ∀ (a b c d : List UInt8), a.length = b.length → Op.bytesLess (a ++ c) (b ++ d) = (Op.bytesLess a b || (decide (a = b) && Op.bytesLess c d))
  | [], [], c, d, _ => by
    have e : Op.bytesLess ([] : List UInt8) [] = false := rfl
    rw [e]; simp
  | x :: a, y :: b, c, d, h => by
    have ih := bl_app a b c d (by simpa using h)
    have e : ∀ (u v : List UInt8), Op.bytesLess (x :: u) (y :: v) = (decide (x < y) || (x == y && Op.bytesLess u v)) := fun _ _ => rfl
    rw [List.cons_append, List.cons_append, e, e, ih]
    by_cases hxy : x = y
    · subst hxy
      simp
    · have h1 : (x == y) = false := by simpa using hxy
      have h2 : decide (x :: a = y :: b) = false := by simp [hxy]
      rw [h1, h2]; simp
theorem bl_one (a b : Nat) (ha : a < 10) (hb : b < 10) : Op.bytesLess [UInt8.ofNat (48 + a)] [UInt8.ofNat (48 + b)] = decide (a < b) := by
  have e : Op.bytesLess [UInt8.ofNat (48 + a)] [UInt8.ofNat (48 + b)] = (decide (UInt8.ofNat (48 + a) < UInt8.ofNat (48 + b)) || (UInt8.ofNat (48 + a) == UInt8.ofNat (48 + b) && Op.bytesLess [] [])) := rfl
  have e2 : Op.bytesLess ([] : List UInt8) [] = false := rfl
  rw [e, e2, Bool.and_false, Bool.or_false]
  congr 1
  rw [UInt8.lt_iff_toNat_lt, digit_nat a ha, digit_nat b hb]
  exact propext ⟨fun h => by omega, fun h => by omega⟩
theorem dig_less : ∀ (k a b : Nat), a < 10 ^ k → b < 10 ^ k → Op.bytesLess (dig k a) (dig k b) = decide (a < b)
  | 0, a, b, ha, hb => by
    simp at ha hb
    subst ha; subst hb
    rfl
  | k + 1, a, b, ha, hb => by
    have h1 : a / 10 < 10 ^ k := by rw [Nat.div_lt_iff_lt_mul (by omega), ← Nat.pow_succ]; exact ha
    have h2 : b / 10 < 10 ^ k := by rw [Nat.div_lt_iff_lt_mul (by omega), ← Nat.pow_succ]; exact hb
    rw [dig, dig, bl_app _ _ _ _ (by rw [dig_length, dig_length]), dig_less k _ _ h1 h2, bl_one _ _ (by omega) (by omega)]
    have he : decide (dig k (a / 10) = dig k (b / 10)) = decide (a / 10 = b / 10) := by
      by_cases h : a / 10 = b / 10
      · rw [h]; simp
      · have : ¬ dig k (a / 10) = dig k (b / 10) := fun e => h (dig_inj k _ _ h1 h2 e)
        simp [h, this]
    rw [he]
    rw [Bool.eq_iff_iff]
    simp only [Bool.or_eq_true, Bool.and_eq_true, decide_eq_true_eq]
    omega
/-- what is ahead of the first sign is cut -/
theorem index_app : ∀ (k t : List UInt8), 45 ∉ k → Lib.index (k ++ 45 :: t) [45] = (k.length : Int)
  | [], t, _ => by simp [Lib.index, List.isPrefixOf]
  | x :: k, t, h => by
    have hx : x ≠ 45 := fun e => h (by simp [e])
    have ih := index_app k t (fun e => h (List.mem_cons_of_mem _ e))
    have hp : ([45] : List UInt8).isPrefixOf (x :: (k ++ 45 :: t)) = false := by
      simp only [List.isPrefixOf, Bool.and_eq_false_imp]
      intro e
      exact absurd (by simpa using e : 45 = x).symm hx
    rw [List.cons_append, Lib.index, hp, ih]
    have hn : (((k.length : Nat) : Int) == -1) = false := by rw [beq_eq_false_iff_ne]; omega
    simp [hn]
theorem cut_app (k t : List UInt8) (h : 45 ∉ k) : Lib.cut (k ++ 45 :: t) [45] = (k, t, true) := by
  have hi := index_app k t h
  unfold Lib.cut
  rw [hi, if_pos (by omega)]
  simp
/-- a name that is not done is none of a store's -/
theorem parse_temp (name : ByteArray) : (parse (⟨#[116, 109, 112, 45]⟩ ++ name)).2.2 = false := by
  have hl : ((⟨#[116, 109, 112, 45]⟩ : ByteArray) ++ name).data.toList = [116, 109, 112] ++ 45 :: name.data.toList := by
    rw [ba_app]; rfl
  have hk : cutK (⟨#[116, 109, 112, 45]⟩ ++ name) = ⟨#[116, 109, 112]⟩ := by
    unfold cutK
    rw [hl, cut_app _ _ (by decide)]
  unfold parse
  split
  · unfold parseAt
    rw [hk, if_neg (by rintro ⟨h | h, _⟩ <;> exact absurd h (by decide))]
  · rfl
theorem name_yes (kind : ByteArray) (n : Nat) (h : n ≤ 999999) : (nameB kind n).data.toList = kind.data.toList ++ [45] ++ dig 6 n := by
  unfold nameB
  rw [if_pos (by unfold inName; simp; omega), Int.toNat_natCast, pad_eq n h]
theorem name_inj (kind : ByteArray) (a b : Nat) (ha : a ≤ 999999) (hb : b ≤ 999999) : nameB kind a = nameB kind b ↔ a = b := by
  constructor
  · intro h
    have e := congrArg (fun s : ByteArray => s.data.toList) h
    simp only [name_yes kind a ha, name_yes kind b hb] at e
    exact dig_inj 6 a b (by omega) (by omega) (List.append_cancel_left e)
  · rintro rfl; rfl
theorem name_less (kind : ByteArray) (a b : Nat) (ha : a ≤ 999999) (hb : b ≤ 999999) : Op.bytesLess (nameB kind a).toList (nameB kind b).toList = decide (a < b) := by
  rw [ByteArray.toList_eq, ByteArray.toList_eq, name_yes kind a ha, name_yes kind b hb, bl_pre, dig_less 6 a b (by omega) (by omega)]
theorem name_kinds (a b : Nat) (ha : a ≤ 999999) (hb : b ≤ 999999) : nameB wal a ≠ nameB block b := by
  intro h
  have e := congrArg (fun s : ByteArray => s.data.toList) h
  simp only [name_yes wal a ha, name_yes block b hb] at e
  have h1 := congrArg List.head? e
  exact absurd (show (some (119 : UInt8)) = some 98 from h1) (by decide)
end Me
end Go.Proofs.YtokofifecdpmfaaDoor
