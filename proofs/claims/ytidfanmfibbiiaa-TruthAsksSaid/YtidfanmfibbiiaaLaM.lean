/-
  Labels: the mathematics of their order, limits and lengths.
-/
import Derived.Test.YtidfanmfibbiiaaLaL
namespace Go.Proofs.Ytidfanmfibbiiaa
namespace La
theorem limit_lt (a b : Int) (h1 : 1 ≤ a) (h2 : b ≤ 3) (h : a < b) : limit a < limit b := by
  have : (a = 1 ∧ b = 2) ∨ (a = 1 ∧ b = 3) ∨ (a = 2 ∧ b = 3) := by omega
  rcases this with ⟨rfl, rfl⟩ | ⟨rfl, rfl⟩ | ⟨rfl, rfl⟩ <;> decide
theorem longest_le (f : Nat → Lab) (m : Nat) : ∀ n, (∀ i, i < n → (f i).1.size ≤ m ∧ (f i).2.size ≤ m) → longest f n ≤ m
  | 0, _ => Nat.zero_le _
  | n + 1, h => by
    have h1 := longest_le f m n (fun i hi => h i (by omega))
    have h2 := h n (by omega)
    rw [longest]; omega
theorem longest_ge (f : Nat → Lab) : ∀ n i, i < n → (f i).1.size ≤ longest f n ∧ (f i).2.size ≤ longest f n
  | n + 1, i, hi => by
    rw [longest]
    rcases Nat.lt_or_ge i n with h | h
    · have := longest_ge f n i h; omega
    · rw [show i = n from by omega]; omega
theorem right_parts {f : Nat → Lab} {n : Nat} (h : right f n = true) : 1 ≤ n ∧ n ≤ 6 ∧ ∀ i, i < n → okName (f i).1 = true ∧ okValue (f i).2 = true ∧ (i = 0 ∨ less (f (i - 1)).1 (f i).1 = true) := by
  unfold right at h
  rw [Bool.and_eq_true, decide_eq_true_eq] at h
  refine ⟨h.1.1, h.1.2, fun i hi => ?_⟩
  have := List.all_eq_true.1 h.2 i (List.mem_range.2 hi)
  unfold okAt at this
  simp only [Bool.and_eq_true, Bool.or_eq_true, decide_eq_true_eq] at this
  exact ⟨this.1.1, this.1.2, this.2⟩
theorem okName_size {s : ByteArray} (h : okName s = true) : 0 < s.size ∧ s.size ≤ 48 := by
  unfold okName at h
  rw [Bool.and_eq_true] at h
  exact allB_pos h.1
theorem right_longest {f : Nat → Lab} {n : Nat} (h : right f n = true) : longest f n ≤ 48 ∧ 0 < longest f n := by
  obtain ⟨h1, h2, h3⟩ := right_parts h
  refine ⟨longest_le f 48 n (fun i hi => ⟨(okName_size (h3 i hi).1).2, (allB_pos (h3 i hi).2.1).2⟩), ?_⟩
  have := (longest_ge f n 0 (by omega)).1
  have := (okName_size (h3 0 (by omega)).1).1
  omega
theorem bl_irrefl : ∀ a : List UInt8, Op.bytesLess a a = false
  | [] => rfl
  | x :: a => by
    unfold Op.bytesLess
    have := bl_irrefl a
    simp [this]
theorem bl_cons (x y : UInt8) (a b : List UInt8) : Op.bytesLess (x :: a) (y :: b) = true ↔ x.toNat < y.toNat ∨ (x = y ∧ Op.bytesLess a b = true) := by
  have e : Op.bytesLess (x :: a) (y :: b) = (decide (x < y) || (x == y && Op.bytesLess a b)) := rfl
  rw [e, Bool.or_eq_true, Bool.and_eq_true, decide_eq_true_eq, beq_iff_eq, UInt8.lt_iff_toNat_lt]
theorem bl_tri : ∀ a b : List UInt8, Op.bytesLess a b = true ∨ a = b ∨ Op.bytesLess b a = true
  | [], [] => .inr (.inl rfl)
  | [], _ :: _ => .inl rfl
  | _ :: _, [] => .inr (.inr rfl)
  | x :: a, y :: b => by
    rw [bl_cons, bl_cons]
    have h := bl_tri a b
    rcases Nat.lt_trichotomy x.toNat y.toNat with h1 | h1 | h1
    · exact .inl (.inl h1)
    · have e := UInt8.toNat_inj.1 h1
      subst e
      rcases h with h | h | h
      · exact .inl (.inr ⟨rfl, h⟩)
      · exact .inr (.inl (by rw [h]))
      · exact .inr (.inr (.inr ⟨rfl, h⟩))
    · exact .inr (.inr (.inl h1))
theorem bl_nil (a : List UInt8) : Op.bytesLess a [] = false := by cases a <;> rfl
theorem bl_trans : ∀ a b c : List UInt8, Op.bytesLess a b = true → Op.bytesLess b c = true → Op.bytesLess a c = true
  | _, [], _, h, _ => by rw [bl_nil] at h; cases h
  | _, _ :: _, [], _, h => by rw [bl_nil] at h; cases h
  | [], _ :: _, _ :: _, _, _ => rfl
  | x :: a, y :: b, z :: c, h1, h2 => by
    rw [bl_cons] at h1 h2 ⊢
    rcases h1 with h1 | ⟨rfl, h1⟩ <;> rcases h2 with h2 | ⟨rfl, h2⟩
    · exact .inl (by omega)
    · exact .inl h1
    · exact .inl h2
    · exact .inr ⟨rfl, bl_trans a b c h1 h2⟩
theorem less_irrefl (a : ByteArray) : less a a = false := bl_irrefl _
theorem less_trans {a b c : ByteArray} (h1 : less a b = true) (h2 : less b c = true) : less a c = true := bl_trans _ _ _ h1 h2
theorem less_asymm {a b : ByteArray} (h : less a b = true) : less b a = false := by
  cases e : less b a
  · rfl
  · have := less_trans h e
    rw [less_irrefl] at this; cases this
theorem less_tri (a b : ByteArray) : less a b = true ∨ a = b ∨ less b a = true := by
  rcases bl_tri a.toList b.toList with h | h | h
  · exact .inl h
  · right; left; rw [Lib.toList_data, Lib.toList_data] at h; rw [← Lib.mk_data a, ← Lib.mk_data b, h]
  · exact .inr (.inr h)
end La
end Go.Proofs.Ytidfanmfibbiiaa
