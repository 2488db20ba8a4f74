/-
  Writers and readers beside each other, and behind what others did.
-/
import Derived.Test.YtahdfcflgicpkaaDoorBitR
namespace Go.Proofs.YtahdfcflgicpkaaDoor
open Go.RowKit

theorem WrAt.lt {W : World} {base p cap : Nat} {A : Option Addr} {B : List Bool} (h : WrAt W base p A cap B) : p < W.heap.size := (Array.getElem?_eq_some_iff.1 h.cells).1
theorem RdAt.lt {W : World} {p x : Nat} {s : ByteArray} (h : RdAt W p s x) : p < W.heap.size := (Array.getElem?_eq_some_iff.1 h).1
theorem RdAt.far {W W2 : World} {p x : Nat} {s : ByteArray} {S : Nat → Prop} (h : RdAt W p s x) (hf : Far W W2 S) (hs : ¬ S p) : RdAt W2 p s x := (hf.same p h.lt hs).trans h
theorem RdAt.below {W W2 : World} {p x : Nat} {s : ByteArray} (h : RdAt W p s x) (hb : Below W.heap.size W W2) : RdAt W2 p s x := (hb.block p h.lt).trans h
theorem RdAt.drewOf {W W2 : World} {p x : Nat} {s : ByteArray} (h : RdAt W p s x) (hb : DrewOf W W2) : RdAt W2 p s x := by unfold RdAt; rw [hb.heap]; exact h
/-- the row of a writer is no block of another kind -/
theorem WrAt.not_reader {W : World} {base p cap r x : Nat} {A : Option Addr} {B : List Bool} {s : ByteArray} (h : WrAt W base p A cap B) (hr : RdAt W r s x) : ¬ PutSet p A r := by
  rintro (rfl | h2)
  · have := h.cells.symm.trans hr
    simp at this
  · cases A with
    | none => cases h2
    | some a =>
      obtain ⟨h3, _, _⟩ := row_block h.own (g := a.block) rfl
      have h4 : a.block = r := by simpa using h2
      rw [h4] at h3
      rw [h3] at h
      exact own_ne h.own hr (by decide) rfl
theorem WrAt.far {W W2 : World} {base p cap : Nat} {A : Option Addr} {B : List Bool} {S : Nat → Prop} (h : WrAt W base p A cap B) (hf : Far W W2 S) (hp : ¬ S p) (hA : ∀ g, A = some ⟨g, 0, none⟩ → ¬ S g) : WrAt W2 base p A cap B :=
  RowAt.keep h (hf.same p h.lt hp) (fun g hg => hf.same g (by
    subst hg
    exact (row_block h.own rfl).2.1) (hA g hg))
theorem WrAt.later {W W2 : World} {base p cap : Nat} {A : Option Addr} {B : List Bool} (h : WrAt W base p A cap B) (hb : Below W.heap.size W W2) : WrAt W2 base p A cap B := RowAt.later h (fun k hk => hb.block k hk)
theorem putSet_base {W : World} {base p cap : Nat} {A : Option Addr} {B : List Bool} (h : WrAt W base p A cap B) (hp : base ≤ p) : ∀ k, PutSet p A k → base ≤ k := by
  rintro k (rfl | h2)
  · exact hp
  · cases A with
    | none => cases h2
    | some a =>
      have h3 : a.block = k := by simpa using h2
      rcases h.own.2 with ⟨h4, _⟩ | ⟨g, c, cur, hv, hb, _⟩
      · cases h4
      · simp only [Value.slice.injEq, Option.some.injEq] at hv
        rw [hv.1] at h3
        exact h3 ▸ hb
theorem WrAt.get {W W2 : World} {base p cap r x : Nat} {A : Option Addr} {B : List Bool} {s : ByteArray} (h : WrAt W base p A cap B) (hr : RdAt W r s x) (hf : Far W W2 (OneSet r)) : WrAt W2 base p A cap B := by
  have hn := h.not_reader hr
  refine h.far hf (fun e => hn (.inl (show r = p from (show p = r from e).symm))) (fun g hg e => hn (.inr ?_))
  subst hg
  have : g = r := e
  simp [this]
/-- a writer, a reader, and what lay below them -/
structure Pair (w W : World) (p : Nat) (A : Option Addr) (cap : Nat) (B : List Bool) (r : Nat) (s : ByteArray) (x : Nat) : Prop where
  wr : WrAt W w.heap.size p A cap B
  rd : RdAt W r s x
  bel : Below w.heap.size w W
  hp : w.heap.size ≤ p
  hr : w.heap.size ≤ r
theorem Pair.put {w W W2 : World} {p cap cap2 r x : Nat} {A A2 : Option Addr} {B B2 : List Bool} {s : ByteArray} (h : Pair w W p A cap B r s x) (h2 : WrAt W2 w.heap.size p A2 cap2 B2) (hf : Far W W2 (PutSet p A)) : Pair w W2 p A2 cap2 B2 r s x :=
  ⟨h2, h.rd.far hf (h.wr.not_reader h.rd), h.bel.trans (hf.below h.bel.size (putSet_base h.wr h.hp)), h.hp, h.hr⟩
theorem Pair.get {w W W2 : World} {p cap r x y : Nat} {A : Option Addr} {B : List Bool} {s : ByteArray} (h : Pair w W p A cap B r s x) (h2 : RdAt W2 r s y) (hf : Far W W2 (OneSet r)) : Pair w W2 p A cap B r s y :=
  ⟨h.wr.get h.rd hf, h2, h.bel.trans (hf.below h.bel.size (fun k hk => by have : k = r := hk; have := h.hr; omega)), h.hp, h.hr⟩
theorem Pair.later {w W W2 : World} {p cap r x : Nat} {A : Option Addr} {B : List Bool} {s : ByteArray} (h : Pair w W p A cap B r s x) (hb : Below W.heap.size W W2) : Pair w W2 p A cap B r s x :=
  ⟨h.wr.later hb, h.rd.below hb, h.bel.trans (hb.mono h.bel.size), h.hp, h.hr⟩
theorem Pair.drewOf {w W W2 : World} {p cap r x : Nat} {A : Option Addr} {B : List Bool} {s : ByteArray} (h : Pair w W p A cap B r s x) (hd : DrewOf W W2) : Pair w W2 p A cap B r s x :=
  h.later ((Below.refl W.heap.size W).grown (hd.grown none) (Nat.le_refl _) (fun r e => by cases e))
theorem Far.undrew {w W : World} {S : Nat → Prop} (h : Far w.drew W S) : Far w W S := ⟨h.os, h.tape, h.output, h.size, h.same⟩
theorem WrAt.drew {w : World} {base p cap : Nat} {A : Option Addr} {B : List Bool} (h : WrAt w base p A cap B) : WrAt w.drew base p A cap B := RowAt.keep h rfl (fun _ _ => rfl)
theorem u64_nat (c : Int) (h : (Lit.int .u64 c).wf = true) : ∃ n : Nat, c = n ∧ Hid (n < 18446744073709551616) := by
  have hx : 0 ≤ c ∧ c ≤ 18446744073709551615 := by simpa [Lit.wf, IntKind.min, IntKind.max, IntKind.signed, IntKind.bits] using h
  exact ⟨c.toNat, by omega, Lib.hid (by omega)⟩

theorem wd_eq (n : Int) : min (max n 0) 64 = ((Bit.wd n : Nat) : Int) := by unfold Bit.wd; omega
theorem clean_both (b : ByteArray) (hb : b.size ≤ 60) (x : Nat) (hx : x ≤ 8 * b.size) : ∃ o : Bool,
    (∀ (w : World) (p : Nat), RdAt w p b x → Calls Tryd.prog 21 #[.pointer (some ⟨p, 0, none⟩)] w fun e w' => e = .returned (.bool o) ∧ Below w.heap.size w w') ∧
    (∀ w : World, Calls Tryd.prog 25 #[.string (Bit.str ((Bit.bits b).drop x))] w fun e w' => e = .returned (.bool o) ∧ w' = w) := by
  have hl : ((Bit.bits b).drop x).length = 8 * b.size - x := by rw [List.length_drop, Bit.bits_length]
  refine ⟨decide (((Bit.bits b).drop x).length < 8) && decide (Bit.val ((Bit.bits b).drop x) = 0), fun w p h => Clean_any p b (by omega) x hx w h _ ?_, fun w => rClean_any _ (by omega) w _ rfl⟩
  rw [hl]
  by_cases h8 : 8 * b.size - x < 8
  · rw [List.take_of_length_le (by rw [hl]; unfold Bit.wd; omega)]
  · simp [h8]
theorem wrap_two (m : Nat) (h : m < 64) : IntKind.u64.wrap (2 ^ m) = (2 : Int) ^ m := by
  have h1 : (2 : Nat) ^ m < 2 ^ 64 := Nat.pow_lt_pow_right (by decide) h
  have h2 : ((2 ^ m : Nat) : Int) = (2 : Int) ^ m := by norm_cast
  rw [← h2]
  generalize 2 ^ m = k at *
  unfold IntKind.wrap; simp [IntKind.bits, IntKind.signed]; omega
theorem Bit.wd_wd (n : Int) : Bit.wd ((Bit.wd n : Nat) : Int) = Bit.wd n := by unfold Bit.wd; omega
theorem Bit.val_zeros : ∀ n, Bit.val (List.replicate n false) = 0
  | 0 => rfl
  | n + 1 => by simp [List.replicate_succ, Bit.val, Bit.val_zeros n]
/-- what is left when all that was put is read: less than eight bits, all of them zero -/
theorem text_end (B : List Bool) : (Bit.bits (Bit.text B)).drop B.length = List.replicate (8 * (Bit.text B).size - B.length) false ∧ 8 * (Bit.text B).size - B.length < 8 ∧ B.length ≤ 8 * (Bit.text B).size := by
  have h := Bit.text_size B
  refine ⟨?_, by omega, by omega⟩
  rw [Bit.text_bits, List.drop_left, Bit.text_size]; rfl
theorem Clean_end (B : List Bool) (hB : B.length ≤ 8000) (w : World) (p : Nat) (h : RdAt w p (Bit.text B) B.length) :
    Calls Tryd.prog 21 #[.pointer (some ⟨p, 0, none⟩)] w fun e w' => e = .returned (.bool true) ∧ Below w.heap.size w w' := by
  obtain ⟨h1, h2, h3⟩ := text_end B
  have hz := Bit.text_size B
  refine Clean_any p _ (by omega) _ h3 w h true ?_
  rw [h1, List.take_replicate, Bit.val_zeros]
  simp [h2]

theorem byte_nat (c : Int) (h : (Lit.int .u8 c).wf = true) : ∃ n : Nat, c = n ∧ n < 256 := by
  have hx : 0 ≤ c ∧ c ≤ 255 := by simpa [Lit.wf, IntKind.min, IntKind.max, IntKind.signed, IntKind.bits] using h
  exact ⟨c.toNat, by omega, by omega⟩
/-- two writers, apart, and what lay below them -/
structure Two (w W : World) (p1 : Nat) (A1 : Option Addr) (cap1 : Nat) (B1 : List Bool) (p2 : Nat) (A2 : Option Addr) (cap2 : Nat) (B2 : List Bool) : Prop where
  w1 : WrAt W w.heap.size p1 A1 cap1 B1
  w2 : WrAt W w.heap.size p2 A2 cap2 B2
  bel : Below w.heap.size w W
  h1 : w.heap.size ≤ p1
  h2 : w.heap.size ≤ p2
  ne : p1 ≠ p2
  row : ∀ g, A1 = some ⟨g, 0, none⟩ → A2 ≠ some ⟨g, 0, none⟩
theorem Two.swap {w W : World} {p1 p2 cap1 cap2 : Nat} {A1 A2 : Option Addr} {B1 B2 : List Bool} (h : Two w W p1 A1 cap1 B1 p2 A2 cap2 B2) : Two w W p2 A2 cap2 B2 p1 A1 cap1 B1 :=
  ⟨h.w2, h.w1, h.bel, h.h2, h.h1, h.ne.symm, fun g e e2 => h.row g e2 e⟩
theorem WrAt.row_at {W : World} {base p cap : Nat} {A : Option Addr} {B : List Bool} (h : WrAt W base p A cap B) : A = none ∨ ∃ g, A = some ⟨g, 0, none⟩ ∧ base ≤ g ∧ g < W.heap.size := by
  rcases h.own.2 with ⟨h4, _⟩ | ⟨g, c, cur, hv, hb, hc, _⟩
  · left; cases A with
    | none => rfl
    | some a => cases h4
  · right
    refine ⟨g, ?_, hb, ?_⟩
    · simp only [Value.slice.injEq] at hv; exact hv.1
    · have e : A = some ⟨g, 0, none⟩ := by simp only [Value.slice.injEq] at hv; exact hv.1
      subst e
      exact (row_block h.own rfl).2.1
/-- the cells of a writer are no row of another -/
theorem WrAt.not_cells {W : World} {base p p2 cap cap2 : Nat} {A A2 : Option Addr} {B B2 : List Bool} (h : WrAt W base p A cap B) (h2 : WrAt W base p2 A2 cap2 B2) {g : Nat} (hA : A = some ⟨g, 0, none⟩) : g ≠ p2 := by
  subst hA
  exact own_ne h.own h2.cells (by decide)
theorem Two.put {w W W2 : World} {p1 p2 cap1 cap2 cap3 : Nat} {A1 A2 A3 : Option Addr} {B1 B2 B3 : List Bool} (h : Two w W p1 A1 cap1 B1 p2 A2 cap2 B2) (hw : WrAt W2 w.heap.size p1 A3 cap3 B3) (hN : NewRow W A1 A3) (hF : Far W W2 (PutSet p1 A1)) : Two w W2 p1 A3 cap3 B3 p2 A2 cap2 B2 := by
  have key : ∀ k, PutSet p1 A1 k → k = p1 ∨ A1 = some ⟨k, 0, none⟩ := by
    rintro k (rfl | hk)
    · exact .inl rfl
    · rcases h.w1.row_at with rfl | ⟨g, rfl, _⟩
      · cases hk
      · right; have : g = k := by simpa using hk
        rw [this]
  refine ⟨hw, h.w2.far hF ?_ ?_, h.bel.trans (hF.below h.bel.size (putSet_base h.w1 h.h1)), h.h1, h.h2, h.ne, ?_⟩
  · intro hk
    rcases key _ hk with e | e
    · exact h.ne e.symm
    · exact h.w1.not_cells h.w2 e rfl
  · intro g hg hk
    rcases key _ hk with e | e
    · exact h.w2.not_cells h.w1 hg e
    · exact h.row g e hg
  · rintro g e3 e2
    rcases hN with rfl | ⟨g3, rfl, hg⟩
    · exact h.row g e3 e2
    · have e : g3 = g := by simpa using e3
      subst e
      rcases h.w2.row_at with e4 | ⟨g2, e4, _, hlt⟩
      · rw [e4] at e2; cases e2
      · rw [e4] at e2
        have e5 : g2 = g3 := by injection e2 with e6; injection e6
        omega
theorem NewRow.undrew {w : World} {A A2 : Option Addr} (h : NewRow w.drew A A2) : NewRow w A A2 := h
end Go.Proofs.YtahdfcflgicpkaaDoor
