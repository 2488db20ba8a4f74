/-
  Bits that are put behind others, a byte's worth at a time: the mathematics.
-/
import Derived.Test.YtfgcgjogaaofdaaGreatDoorBitM
import Derived.Test.YtfgcgjogaaofdaaGreatDoorArr
namespace Go.Proofs.YtfgcgjogaaofdaaGreatDoor
open Go.RowKit
namespace Bit

/-- the bytes of bits, and of the byte that is begun, though no bit is in it -/
def pad (B : List Bool) : List UInt8 := (List.range (B.length / 8 + 1)).map fun j => UInt8.ofNat (at_ B j)
theorem pad_length (B : List Bool) : (pad B).length = B.length / 8 + 1 := by simp [pad]
theorem pack_pad (B : List Bool) (h : B.length % 8 ≠ 0) : pack B = pad B := by
  unfold pack pad size
  rw [show (B.length + 7) / 8 = B.length / 8 + 1 from by omega]
theorem pad_pack (B : List Bool) (h : B.length % 8 = 0) : pad B = pack B ++ [0] := by
  have e : at_ B (B.length / 8) = 0 := by
    unfold at_
    rw [List.drop_of_length_le (by omega)]
    simp [val]
  unfold pack pad size
  rw [show (B.length + 7) / 8 = B.length / 8 from by omega, List.range_succ, List.map_append]
  simp [e]
theorem pad_get (B : List Bool) : (pad B)[B.length / 8]? = some (UInt8.ofNat (at_ B (B.length / 8))) := by
  simp [pad]
theorem pack_step (B C : List Bool) (h0 : 0 < C.length) (h : B.length % 8 + C.length ≤ 8) :
    (pad B).set (B.length / 8) (UInt8.ofNat (at_ B (B.length / 8) + val C * 2 ^ (8 - B.length % 8 - C.length))) = pack (B ++ C) := by
  have hs : size (B ++ C) = B.length / 8 + 1 := by unfold size; rw [List.length_append]; omega
  apply List.ext_getElem?
  intro j
  rw [List.getElem?_set]
  by_cases hj : B.length / 8 = j
  · subst hj
    rw [if_pos rfl, if_pos (by rw [pad_length]; omega), pack_get _ _ (by omega), at_append B C (by omega)]
  · rw [if_neg hj]
    rcases Nat.lt_or_ge j (B.length / 8) with hlt | hge
    · rw [pack_get _ _ (by omega), at_append_same B C j hlt]
      simp [pad, show j < B.length / 8 + 1 from by omega]
    · rw [List.getElem?_eq_none (by rw [pad_length]; omega), List.getElem?_eq_none (by rw [pack_length]; omega)]

/-- the first bits of a number of n bits, of which r are left -/
theorem of_more (v r m a : Nat) : of (v / 2 ^ (r + m)) a ++ of (v / 2 ^ r) m = of (v / 2 ^ r) (a + m) := by
  rw [of_append, Nat.div_div_eq_div_mul, ← Nat.pow_add]
theorem pow_split (a b : Nat) : 2 ^ (a + b) = 2 ^ a * 2 ^ b := Nat.pow_add 2 a b
theorem byte_join (ob c k m : Nat) (hlow : ob % 2 ^ (k + m) = 0) (hc : c < 2 ^ m) : ob ||| c * 2 ^ k = ob + c * 2 ^ k := by
  have h1 : c * 2 ^ k < 2 ^ (k + m) := by
    rw [Nat.pow_add, Nat.mul_comm (2 ^ k)]
    exact Nat.mul_lt_mul_of_pos_right hc (Nat.two_pow_pos k)
  exact nat_join (k + m) _ _ hlow h1
theorem byte_fits (c k m : Nat) (hk : k + m ≤ 8) (hc : c < 2 ^ m) : c * 2 ^ k < 256 := by
  have h1 : c * 2 ^ k < 2 ^ (k + m) := by
    rw [Nat.pow_add, Nat.mul_comm (2 ^ k)]
    exact Nat.mul_lt_mul_of_pos_right hc (Nat.two_pow_pos k)
  have h2 : 2 ^ (k + m) ≤ 2 ^ 8 := Nat.pow_le_pow_right (by decide) hk
  omega
end Bit

/-- a world that is as it was, but for some blocks, and new ones -/
structure Far (w W : World) (S : Nat → Prop) : Prop where
  os : W.os = w.os
  tape : W.tape = w.tape
  output : W.output = w.output
  size : w.heap.size ≤ W.heap.size
  same : ∀ k, k < w.heap.size → ¬ S k → W.heap[k]? = w.heap[k]?
theorem Far.refl (w : World) (S : Nat → Prop) : Far w w S := ⟨rfl, rfl, rfl, Nat.le_refl _, fun _ _ _ => rfl⟩
theorem Far.step {w W W2 : World} {S : Nat → Prop} {row : Option Nat} (h : Far w W S) (hg : W.grownBy W2 row) (hr : ∀ r, row = some r → S r ∨ w.heap.size ≤ r) : Far w W2 S :=
  ⟨hg.os.trans h.os, hg.tape.trans h.tape, hg.output.trans h.output, Nat.le_trans h.size hg.size, fun k hk hs => (hg.block k (Nat.lt_of_lt_of_le hk h.size) (fun e => by
    rcases hr k e.symm with h2 | h2
    · exact hs h2
    · omega)).trans (h.same k hk hs)⟩
theorem Far.below {w W : World} {S : Nat → Prop} {base : Nat} (h : Far w W S) (hb : base ≤ w.heap.size) (hS : ∀ k, S k → base ≤ k) : Below base w W :=
  (Below.refl base w).trans ⟨h.os, h.tape, h.output, h.size, fun k hk => h.same k (by omega) (fun e => by have := hS k e; omega)⟩
theorem Far.trans {w W W2 : World} {S S2 : Nat → Prop} (h : Far w W S) (h2 : Far W W2 S2) (hs : ∀ k, S2 k → S k ∨ w.heap.size ≤ k) : Far w W2 S :=
  ⟨h2.os.trans h.os, h2.tape.trans h.tape, h2.output.trans h.output, Nat.le_trans h.size h2.size, fun k hk hn => (h2.same k (Nat.lt_of_lt_of_le hk h.size) (fun e => by
    rcases hs k e with h3 | h3
    · exact hn h3
    · omega)).trans (h.same k hk hn)⟩
/-- three blocks more, and two -/
theorem three_heap (w : World) (a b c : Obj) : (((w.alloc a).alloc b).alloc c).heap[w.heap.size]? = some a ∧ (((w.alloc a).alloc b).alloc c).heap[w.heap.size + 1]? = some b ∧ (((w.alloc a).alloc b).alloc c).heap[w.heap.size + 2]? = some c ∧
    (((w.alloc a).alloc b).alloc c).heap.size = w.heap.size + 3 ∧ (∀ k, k < w.heap.size → (((w.alloc a).alloc b).alloc c).heap[k]? = w.heap[k]?) ∧ w.grownBy (((w.alloc a).alloc b).alloc c) none := by
  have z1 : (w.alloc a).heap.size = w.heap.size + 1 := by simp
  have z2 : ((w.alloc a).alloc b).heap.size = w.heap.size + 2 := by simp
  refine ⟨?_, ?_, ?_, by simp, fun k hk => ?_, grown_trans (grown_trans (World.grownBy_alloc _ _ none) (World.grownBy_alloc _ _ none)) (World.grownBy_alloc _ _ none)⟩
  · rw [Below.heap_alloc _ _ _ (by omega), Below.heap_alloc _ _ _ (by omega), heap_alloc_new]
  · rw [Below.heap_alloc _ _ _ (by omega), ← z1, heap_alloc_new]
  · rw [← z2, heap_alloc_new]
  · rw [Below.heap_alloc _ _ _ (by omega), Below.heap_alloc _ _ _ (by omega), Below.heap_alloc _ _ _ hk]
theorem two_heap (w : World) (a b : Obj) : ((w.alloc a).alloc b).heap[w.heap.size]? = some a ∧ ((w.alloc a).alloc b).heap[w.heap.size + 1]? = some b ∧
    ((w.alloc a).alloc b).heap.size = w.heap.size + 2 ∧ (∀ k, k < w.heap.size → ((w.alloc a).alloc b).heap[k]? = w.heap[k]?) ∧ w.grownBy ((w.alloc a).alloc b) none := by
  have z1 : (w.alloc a).heap.size = w.heap.size + 1 := by simp
  refine ⟨?_, ?_, by simp, fun k hk => ?_, grown_trans (World.grownBy_alloc _ _ none) (World.grownBy_alloc _ _ none)⟩
  · rw [Below.heap_alloc _ _ _ (by omega), heap_alloc_new]
  · rw [← z1, heap_alloc_new]
  · rw [Below.heap_alloc _ _ _ (by omega), Below.heap_alloc _ _ _ hk]
end Go.Proofs.YtfgcgjogaaofdaaGreatDoor
