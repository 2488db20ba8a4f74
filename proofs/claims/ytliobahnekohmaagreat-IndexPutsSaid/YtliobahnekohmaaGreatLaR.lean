import Derived.Test.YtliobahnekohmaaGreatLaG
import Derived.Test.YtliobahnekohmaaGreatNumO
/-
  What Few and works of the laws of label come to.
-/
namespace Go.Proofs.YtliobahnekohmaaGreat
open Go.RowKit
namespace La
def few (f : Nat → Lab) (n : Nat) : Bool := decide (n ≤ 10) && (List.range n).all (fun i => decide ((f i).1.size ≤ 300 ∧ (f i).2.size ≤ 300))
theorem few_yes {f : Nat → Lab} {n : Nat} (h : few f n = true) : n ≤ 10 ∧ ∀ i, i < n → (f i).1.size ≤ 300 ∧ (f i).2.size ≤ 300 := by
 unfold few at h
 simp only [Bool.and_eq_true, decide_eq_true_eq] at h
 exact ⟨h.1, fun i hi => by simpa using List.all_eq_true.1 h.2 i (List.mem_range.2 hi)⟩
theorem few_no {f : Nat → Lab} {n k : Nat} (hk : k < n) (h : ¬ ((f k).1.size ≤ 300 ∧ (f k).2.size ≤ 300)) : few f n = false := by
 unfold few
 have : (List.range n).all (fun i => decide ((f i).1.size ≤ 300 ∧ (f i).2.size ≤ 300)) = false := by
  rw [List.all_eq_false]
  exact ⟨k, List.mem_range.2 hk, by simpa using h⟩
 rw [this, Bool.and_false]
theorem few_ten {f : Nat → Lab} {n : Nat} (h : 10 < n) : few f n = false := by
 unfold few
 rw [decide_eq_false (by omega), Bool.false_and]
theorem few_all {f : Nat → Lab} {n : Nat} (hn : n ≤ 10) (h : ∀ i, i < n → (f i).1.size ≤ 300 ∧ (f i).2.size ≤ 300) : few f n = true := by
 unfold few
 rw [decide_eq_true hn, Bool.true_and, List.all_eq_true]
 intro i hi
 exact decide_eq_true (h i (List.mem_range.1 hi))
end La
set_option maxRecDepth 100000 in
set_option maxHeartbeats 1000000 in
theorem Few_any (A : Option Addr) (n c : Nat) (hn : n ≤ maxLen) (f : Nat → Lab) (w : World) (hA : LabRow w A n f) :
 Calls Tryz.prog 29 #[.slice A n c] w fun e w' => e = .returned (.bool (La.few f n)) ∧ Below w.heap.size w w' := by
 unfold maxLen at hn
 have HA := Lib.hid hA; clear hA
 go_enter Tryz.func29, Tryz.ntmps29
 go_wp2_with fail
 go_loopw [3] (fun i wr => ∃ k : Nat, k ≤ n ∧ k ≤ 11 ∧ i = .int .i64 k ∧ (∀ j, j < k → (f j).1.size ≤ 300 ∧ (f j).2.size ≤ 300) ∧ Below w.heap.size w wr) (fun i _ => n - (intOf i).toNat)
 case atStart => exact ⟨0, Nat.zero_le _, by omega, rfl, (fun j hj => absurd hj (by omega)), Below.refl _ _⟩
 case round =>
  obtain ⟨k, hk, hk11, rfl, hall, hb⟩ := hrel
  by_cases hgo : k < n ∧ k ≤ 10
  · obtain ⟨h1, h2⟩ := hgo
    obtain ⟨ad, rfl, c0, c1⟩ := HA.out.at_ hb h1
    have hb2 := Lib.hid hb; clear hb
    have hno := fun h => La.few_no (f := f) (n := n) (k := k) h1 h
    have hnx : (f k).1.size ≤ 300 ∧ (f k).2.size ≤ 300 → ∀ j, j < k + 1 → (f j).1.size ≤ 300 ∧ (f j).2.size ≤ 300 := fun h j hj => by
     rcases Nat.lt_or_ge j k with h3 | h3
     · exact hall j h3
     · rw [show j = k from by omega]; exact h
    have HNO := Lib.hid hno; have HNX := Lib.hid hnx; clear hno hnx hall
    generalize (f k).1 = x at *
    generalize (f k).2 = y at *
    have i1 : (k : Int) < (n : Int) := by omega
    have i2 : (k : Int) ≤ 10 := by omega
    have d1 : decide ((k : Int) < (n : Int)) = true := by simpa using h1
    have d2 : decide ((k : Int) ≤ 10) = true := by simpa using i2
    by_cases hx : x.size ≤ 300
    · have d3 : decide ((300 : Int) < (x.size : Int)) = false := by simp; omega
      by_cases hy : y.size ≤ 300
      · have d4 : decide ((300 : Int) < (y.size : Int)) = false := by simp; omega
        go_wp2_with fail
        go_roundw
        case rel => exact ⟨k + 1, by omega, by omega, by go_num, HNX.out ⟨hx, hy⟩, hb2.out⟩
        case measure => simp [intOf]; omega
      · have d4 : decide ((300 : Int) < (y.size : Int)) = true := by simp; omega
        go_wp2_with fail
        go_ret
        rw [HNO.out (fun e => hy e.2)]
        exact ⟨rfl, hb2.out⟩
    · have d3 : decide ((300 : Int) < (x.size : Int)) = true := by simp; omega
      go_wp2_with fail
      go_ret
      rw [HNO.out (fun e => hx e.1)]
      exact ⟨rfl, hb2.out⟩
  · by_cases hkn : k < n
    · have d1 : decide ((k : Int) < (n : Int)) = true := by simpa using hkn
      have d2 : decide ((k : Int) ≤ 10) = false := by simp; omega
      have d3 : decide ((n : Int) ≤ 10) = false := by simp; omega
      have hr := La.few_ten (f := f) (n := n) (by omega)
      have HR := Lib.hid hr; clear hr
      go_wp2_with fail
      go_ret
      rw [HR.out]
      exact ⟨rfl, hb⟩
    · have e : k = n := by omega
      subst e
      have d1 : decide ((k : Int) < (k : Int)) = false := by simp
      by_cases h10 : k ≤ 10
      · have hr := La.few_all h10 hall
        have d3 : decide ((k : Int) ≤ 10) = true := by simp; omega
        have HR := Lib.hid hr; clear hr
        go_wp2_with fail
        go_ret
        rw [HR.out]
        exact ⟨rfl, hb⟩
      · have hr := La.few_ten (f := f) (n := k) (by omega)
        have d3 : decide ((k : Int) ≤ 10) = false := by simp; omega
        have HR := Lib.hid hr; clear hr
        go_wp2_with fail
        go_ret
        rw [HR.out]
        exact ⟨rfl, hb⟩
end Go.Proofs.YtliobahnekohmaaGreat
/-
  What works of the laws of label comes to.
-/
namespace Go.Proofs.YtliobahnekohmaaGreat
open Go.RowKit
end Go.Proofs.YtliobahnekohmaaGreat
/-
  Labels: the mathematics of their order, limits and lengths.
-/
namespace Go.Proofs.YtliobahnekohmaaGreat
namespace La
theorem longest_ge (f : Nat → Lab) : ∀ n i, i < n → (f i).1.size ≤ longest f n ∧ (f i).2.size ≤ longest f n
 | n + 1, i, hi => by
  rw [longest]
  rcases Nat.lt_or_ge i n with h | h
  · have := longest_ge f n i h; omega
  · rw [show i = n from by omega]; omega
theorem right_parts {f : Nat → Lab} {n : Nat} (h : right f n = true) : 1 ≤ n ∧ n ≤ 6 ∧ ∀ i, i < n → okName (f i).1 = true ∧ okValue (f i).2 = true ∧ (i = 0 ∨ less (f (i - 1)).1 (f i).1 = true) := by
 unfold right at h
 rw [Bool.and_eq_true, decide_eq_true_eq] at h
 refine ⟨h.1.1, h.1.2, fun i hi => ?_⟩
 have := List.all_eq_true.1 h.2 i (List.mem_range.2 hi)
 unfold okAt at this
 simp only [Bool.and_eq_true, Bool.or_eq_true, decide_eq_true_eq] at this
 exact ⟨this.1.1, this.1.2, this.2⟩
theorem okName_size {s : ByteArray} (h : okName s = true) : 0 < s.size ∧ s.size ≤ 48 := by
 unfold okName at h
 rw [Bool.and_eq_true] at h
 exact allB_pos h.1
theorem bl_irrefl : ∀ a : List UInt8, Op.bytesLess a a = false
 | [] => rfl
 | x :: a => by
  unfold Op.bytesLess
  have := bl_irrefl a
  simp [this]
theorem bl_cons (x y : UInt8) (a b : List UInt8) : Op.bytesLess (x :: a) (y :: b) = true ↔ x.toNat < y.toNat ∨ (x = y ∧ Op.bytesLess a b = true) := by
 have e : Op.bytesLess (x :: a) (y :: b) = (decide (x < y) || (x == y && Op.bytesLess a b)) := rfl
 rw [e, Bool.or_eq_true, Bool.and_eq_true, decide_eq_true_eq, beq_iff_eq, UInt8.lt_iff_toNat_lt]
theorem bl_tri : ∀ a b : List UInt8, Op.bytesLess a b = true ∨ a = b ∨ Op.bytesLess b a = true
 | [], [] => .inr (.inl rfl)
 | [], _ :: _ => .inl rfl
 | _ :: _, [] => .inr (.inr rfl)
 | x :: a, y :: b => by
  rw [bl_cons, bl_cons]
  have h := bl_tri a b
  rcases Nat.lt_trichotomy x.toNat y.toNat with h1 | h1 | h1
  · exact .inl (.inl h1)
  · have e := UInt8.toNat_inj.1 h1
    subst e
    rcases h with h | h | h
    · exact .inl (.inr ⟨rfl, h⟩)
    · exact .inr (.inl (by rw [h]))
    · exact .inr (.inr (.inr ⟨rfl, h⟩))
  · exact .inr (.inr (.inl h1))
theorem bl_nil (a : List UInt8) : Op.bytesLess a [] = false := by cases a <;> rfl
theorem bl_trans : ∀ a b c : List UInt8, Op.bytesLess a b = true → Op.bytesLess b c = true → Op.bytesLess a c = true
 | _, [], _, h, _ => by rw [bl_nil] at h; cases h
 | _, _ :: _, [], _, h => by rw [bl_nil] at h; cases h
 | [], _ :: _, _ :: _, _, _ => rfl
 | x :: a, y :: b, z :: c, h1, h2 => by
  rw [bl_cons] at h1 h2 ⊢
  rcases h1 with h1 | ⟨rfl, h1⟩ <;> rcases h2 with h2 | ⟨rfl, h2⟩
  · exact .inl (by omega)
  · exact .inl h1
  · exact .inl h2
  · exact .inr ⟨rfl, bl_trans a b c h1 h2⟩
theorem less_irrefl (a : ByteArray) : less a a = false := bl_irrefl _
theorem less_trans {a b c : ByteArray} (h1 : less a b = true) (h2 : less b c = true) : less a c = true := bl_trans _ _ _ h1 h2
theorem less_asymm {a b : ByteArray} (h : less a b = true) : less b a = false := by
 cases e : less b a
 · rfl
 · have := less_trans h e
   rw [less_irrefl] at this; cases this
theorem less_tri (a b : ByteArray) : less a b = true ∨ a = b ∨ less b a = true := by
 rcases bl_tri a.toList b.toList with h | h | h
 · exact .inl h
 · right; left; rw [Lib.toList_data, Lib.toList_data] at h; rw [← Lib.mk_data a, ← Lib.mk_data b, h]
 · exact .inr (.inr h)
end La
end Go.Proofs.YtliobahnekohmaaGreat
/-
  Labels: the mathematics of their key and of how they are shown.
-/
namespace Go.Proofs.YtliobahnekohmaaGreat
namespace La
def listOf (f : Nat → Lab) (n : Nat) : List Lab := (List.range n).map f
theorem listOf_length (f : Nat → Lab) (n : Nat) : (listOf f n).length = n := by simp [listOf]
theorem at_listOf (f : Nat → Lab) (n i : Nat) (h : i < n) : at_ (listOf f n) i = f i := by simp [at_, listOf, List.getD, h]
theorem listOf_at (L : List Lab) : listOf (at_ L) L.length = L := by
 apply List.ext_getElem
 · simp [listOf]
 · intro i h1 h2
   simp [listOf, at_, List.getD, h2]
theorem eq_of_same {f g : Nat → Lab} {n : Nat} (h : ∀ i, i < n → f i = g i) : listOf f n = listOf g n := by
 unfold listOf
 exact List.map_congr_left (fun i hi => h i (List.mem_range.1 hi))
theorem same_iff (f g : Nat → Lab) (n m : Nat) : (decide (n = m) && same f g n) = true ↔ listOf f n = listOf g m := by
 constructor
 · intro h
   rw [Bool.and_eq_true, decide_eq_true_eq] at h
   obtain ⟨rfl, h⟩ := h
   unfold same at h
   exact eq_of_same (fun i hi => by simpa using List.all_eq_true.1 h i (List.mem_range.2 hi))
 · intro h
   have hl := congrArg List.length h
   rw [listOf_length, listOf_length] at hl
   subst hl
   rw [decide_eq_true rfl, Bool.true_and]
   unfold same
   rw [List.all_eq_true]
   intro i hi
   have hi2 := List.mem_range.1 hi
   have := congrArg (fun l => at_ l i) h
   simp only [at_listOf _ _ _ hi2] at this
   exact decide_eq_true this
end La
end Go.Proofs.YtliobahnekohmaaGreat
/-
  Two rows of labels with one key are the same.
-/
namespace Go.Proofs.YtliobahnekohmaaGreat
open Go.RowKit
namespace La
end La
end Go.Proofs.YtliobahnekohmaaGreat
