import Derived.Test.YtliobahnekohmaaGreatIxN
import Derived.Test.YtliobahnekohmaaGreatRow
import Derived.Test.YtliobahnekohmaaGreatLaG
import Derived.Test.YtliobahnekohmaaGreatLaR
/-
  Entries in a world; generations and places.
-/
namespace Go.Proofs.YtliobahnekohmaaGreat
open Go.RowKit
structure EAt where
 e : Ix.Ent
 A : Option Addr
 c : Nat
def ex (q : Nat → EAt) (i : Nat) : Nat → Value
 | 0 => .slice (q i).A (q i).e.l.length (q i).c
 | 1 => .int .i64 (q i).e.last
 | 2 => .int .i64 (q i).e.off
 | _ => .int .i64 (q i).e.len
def entC (x : EAt) : Array Value := #[.slice x.A x.e.l.length x.c, .int .i64 x.e.last, .int .i64 x.e.off, .int .i64 x.e.len]
structure EIn (w : World) (x : EAt) : Prop where
 row : LabRow w x.A x.e.l.length (La.at_ x.e.l)
 len : x.e.l.length ≤ 300
 small : ∀ i, i < x.e.l.length → (La.at_ x.e.l i).1.size ≤ 20000 ∧ (La.at_ x.e.l i).2.size ≤ 20000
 last : -9223372036854775808 ≤ x.e.last ∧ x.e.last ≤ 9223372036854775807
 off : -9223372036854775808 ≤ x.e.off ∧ x.e.off ≤ 9223372036854775807
 long : -9223372036854775808 ≤ x.e.len ∧ x.e.len ≤ 9223372036854775807
theorem EIn.later {w w2 : World} {x : EAt} (h : EIn w x) (hb : Below w.heap.size w w2) : EIn w2 x := ⟨h.row.later hb, h.len, h.small, h.last, h.off, h.long⟩
structure EntsIn (w : World) (A : Option Addr) (n : Nat) (q : Nat → EAt) : Prop where
 row : Row 4 (ex q) w A n
 each : ∀ i, i < n → EIn w (q i)
 len : n ≤ 1000
theorem EntsIn.later {w w2 : World} {A : Option Addr} {n : Nat} {q : Nat → EAt} (h : EntsIn w A n q) (hb : Below w.heap.size w w2) : EntsIn w2 A n q := ⟨h.row.later hb, fun i hi => (h.each i hi).later hb, h.len⟩
def entL (q : Nat → EAt) (n : Nat) : List Ix.Ent := (List.range n).map fun i => (q i).e
theorem entL_length (q : Nat → EAt) (n : Nat) : (entL q n).length = n := by simp [entL]
theorem entL_at (q : Nat → EAt) {n i : Nat} (h : i < n) : Ix.at_ (entL q n) i = (q i).e := by simp [Ix.at_, entL, List.getD, h]
theorem entL_succ (q : Nat → EAt) (n : Nat) : entL q (n + 1) = entL q n ++ [(q n).e] := by simp [entL, List.range_succ]
theorem EntsIn.cells {w : World} {A : Option Addr} {n : Nat} {q : Nat → EAt} (h : EntsIn w A n q) {w2 : World} (hb : Below w.heap.size w w2) {k : Nat} (hk : k < n) :
 ∃ ad, A = some ad ∧ w2.cell? (ad.add (k * 4)) = some (.slice (q k).A (q k).e.l.length (q k).c) ∧ w2.cell? ⟨(ad.add (k * 4)).block, (ad.add (k * 4)).off + 1, none⟩ = some (.int .i64 (q k).e.last) ∧
  w2.cell? ⟨(ad.add (k * 4)).block, (ad.add (k * 4)).off + 2, none⟩ = some (.int .i64 (q k).e.off) ∧ w2.cell? ⟨(ad.add (k * 4)).block, (ad.add (k * 4)).off + 3, none⟩ = some (.int .i64 (q k).e.len) := by
 obtain ⟨ad, e, cc0, cc1⟩ := h.row.at_ hb hk
 exact ⟨ad, e, cc0 (by decide), cc1 1 (by decide) (by decide), cc1 2 (by decide) (by decide), cc1 3 (by decide) (by decide)⟩
theorem isGen_any (g : Int) (w : World) : Calls Tryz.prog 44 #[.int .i64 g] w fun e w' => e = .returned (.bool (Ix.isG g)) ∧ w' = w := by
 unfold Ix.isG
 go_enter Tryz.func44, Tryz.ntmps44
 by_cases h1 : 1 ≤ g
 · have d1 : decide ((1 : Int) ≤ g) = true := decide_eq_true h1
   by_cases h2 : g ≤ 3
   · have d2 : decide (g ≤ 3) = true := decide_eq_true h2
     have d3 : decide (1 ≤ g ∧ g ≤ 3) = true := decide_eq_true ⟨h1, h2⟩
     rw [d3]
     clear h1 h2 d3
     go_wp2_with fail
     go_ret
     exact ⟨rfl, rfl⟩
   · have d2 : decide (g ≤ 3) = false := decide_eq_false h2
     have d3 : decide (1 ≤ g ∧ g ≤ 3) = false := decide_eq_false (fun h => h2 h.2)
     rw [d3]
     clear h1 h2 d3
     go_wp2_with fail
     go_ret
     exact ⟨rfl, rfl⟩
 · have d1 : decide ((1 : Int) ≤ g) = false := decide_eq_false h1
   have d3 : decide (1 ≤ g ∧ g ≤ 3) = false := decide_eq_false (fun h => h1 h.1)
   rw [d3]
   clear h1 d3
   go_wp2_with fail
   go_ret
   exact ⟨rfl, rfl⟩
theorem isPlace_any (g : Int) (w : World) : Calls Tryz.prog 47 #[.int .i64 g] w fun e w' => e = .returned (.bool (Ix.isPlace g)) ∧ w' = w := by
 unfold Ix.isPlace
 go_enter Tryz.func47, Tryz.ntmps47
 by_cases h1 : 0 ≤ g
 · have d1 : decide ((0 : Int) ≤ g) = true := decide_eq_true h1
   by_cases h2 : g ≤ 1073741824
   · have d2 : decide (g ≤ 1073741824) = true := decide_eq_true h2
     have d3 : decide (0 ≤ g ∧ g ≤ 1073741824) = true := decide_eq_true ⟨h1, h2⟩
     rw [d3]
     clear h1 h2 d3
     go_wp2_with fail
     go_ret
     exact ⟨rfl, rfl⟩
   · have d2 : decide (g ≤ 1073741824) = false := decide_eq_false h2
     have d3 : decide (0 ≤ g ∧ g ≤ 1073741824) = false := decide_eq_false (fun h => h2 h.2)
     rw [d3]
     clear h1 h2 d3
     go_wp2_with fail
     go_ret
     exact ⟨rfl, rfl⟩
 · have d1 : decide ((0 : Int) ≤ g) = false := decide_eq_false h1
   have d3 : decide (0 ≤ g ∧ g ≤ 1073741824) = false := decide_eq_false (fun h => h1 h.1)
   rw [d3]
   clear h1 d3
   go_wp2_with fail
   go_ret
   exact ⟨rfl, rfl⟩
end Go.Proofs.YtliobahnekohmaaGreat
/-
  The laws' limits: so few entries.
-/
namespace Go.Proofs.YtliobahnekohmaaGreat
open Go.RowKit
structure EWords (e : Ix.Ent) : Prop where
 last : -9223372036854775808 ≤ e.last ∧ e.last ≤ 9223372036854775807
 off : -9223372036854775808 ≤ e.off ∧ e.off ≤ 9223372036854775807
 len : -9223372036854775808 ≤ e.len ∧ e.len ≤ 9223372036854775807
structure EntsRaw (w : World) (A : Option Addr) (n : Nat) (q : Nat → EAt) : Prop where
 row : Row 4 (ex q) w A n
 labs : ∀ i, i < n → LabRow w (q i).A (q i).e.l.length (La.at_ (q i).e.l)
 words : ∀ i, i < n → EWords (q i).e
 len : ∀ i, i < n → (q i).e.l.length ≤ maxLen
theorem EntsRaw.later {w w2 : World} {A : Option Addr} {n : Nat} {q : Nat → EAt} (h : EntsRaw w A n q) (hb : Below w.heap.size w w2) : EntsRaw w2 A n q :=
 ⟨h.row.later hb, fun i hi => (h.labs i hi).later hb, h.words, h.len⟩
def fewOne (q : Nat → EAt) (i : Nat) : Bool := La.few (La.at_ (q i).e.l) (q i).e.l.length
def fewR (q : Nat → EAt) (n : Nat) : Bool := decide (n ≤ 30) && (List.range n).all (fewOne q)
theorem fewR_no {q : Nat → EAt} {n k : Nat} (hk : k < n) (h : fewOne q k = false) : fewR q n = false := by
 unfold fewR
 have : (List.range n).all (fewOne q) = false := by
  rw [List.all_eq_false]
  exact ⟨k, List.mem_range.2 hk, by rw [h]; exact Bool.false_ne_true⟩
 rw [this, Bool.and_false]
theorem fewR_many {q : Nat → EAt} {n : Nat} (h : 30 < n) : fewR q n = false := by
 unfold fewR
 rw [decide_eq_false (by omega), Bool.false_and]
theorem fewR_all {q : Nat → EAt} {n : Nat} (hn : n ≤ 30) (h : ∀ i, i < n → fewOne q i = true) : fewR q n = true := by
 unfold fewR
 rw [decide_eq_true hn, Bool.true_and, List.all_eq_true]
 intro i hi
 exact h i (List.mem_range.1 hi)
theorem fewR_yes {q : Nat → EAt} {n : Nat} (h : fewR q n = true) : n ≤ 30 ∧ ∀ i, i < n → fewOne q i = true := by
 unfold fewR at h
 simp only [Bool.and_eq_true, decide_eq_true_eq] at h
 exact ⟨h.1, fun i hi => List.all_eq_true.1 h.2 i (List.mem_range.2 hi)⟩
theorem EntsRaw.in_ {w : World} {A : Option Addr} {n : Nat} {q : Nat → EAt} (h : EntsRaw w A n q) (hf : fewR q n = true) : EntsIn w A n q := by
 obtain ⟨h1, h2⟩ := fewR_yes hf
 refine ⟨h.row, fun i hi => ?_, by omega⟩
 obtain ⟨h3, h4⟩ := La.few_yes (h2 i hi)
 have hw := h.words i hi
 exact ⟨h.labs i hi, by omega, fun j hj => by have := h4 j hj; omega, hw.last, hw.off, hw.len⟩
set_option maxRecDepth 100000 in
set_option maxHeartbeats 1000000 in
theorem few_any (A : Option Addr) (n c : Nat) (hn : n ≤ maxLen) (q : Nat → EAt) (w : World) (hA : EntsRaw w A n q) :
 Calls Tryz.prog 10 #[.slice A n c] w fun e w' => e = .returned (.bool (fewR q n)) ∧ Below w.heap.size w w' := by
 unfold maxLen at hn
 have HA := Lib.hid hA; clear hA
 go_enter Tryz.func10, Tryz.ntmps10
 go_wp2_with fail
 go_loopw [3, 4] (fun i _ wr => ∃ k : Nat, k ≤ n ∧ k ≤ 31 ∧ i = .int .i64 k ∧ (∀ j, j < k → fewOne q j = true) ∧ Below w.heap.size w wr) (fun i _ _ => n - (intOf i).toNat)
 case atStart => exact ⟨0, Nat.zero_le _, by omega, rfl, (fun j hj => absurd hj (by omega)), Below.refl _ _⟩
 case round =>
  obtain ⟨k, hk, hk11, rfl, hall, hb⟩ := hrel
  by_cases hgo : k < n ∧ k ≤ 30
  · obtain ⟨h1, h2⟩ := hgo
    obtain ⟨ad, rfl, c1, -⟩ := HA.out.row.at_ hb h1
    have x1 := c1 (by decide)
    have hnx : fewOne q k = true → ∀ j, j < k + 1 → fewOne q j = true := fun h j hj => by
     rcases Nat.lt_or_ge j k with h3 | h3
     · exact hall j h3
     · rw [show j = k from by omega]; exact h
    have HNO := Lib.hid (fun h => fewR_no (q := q) (n := n) (k := k) h1 h); have HNX := Lib.hid hnx; clear hnx hall c1
    have HF : Hid (∀ U, Below w.heap.size w U → Calls Tryz.prog 29 #[.slice (q k).A (q k).e.l.length (q k).c] U fun e w' => e = .returned (.bool (fewOne q k)) ∧ Below U.heap.size U w') := Lib.hid (fun U hU => Few_any _ _ _ (HA.out.len k h1) _ U ((HA.out.labs k h1).later hU))
    have HB := Lib.hid hb; clear hb
    have x1 : wr.cell? (ad.add (k * 4)) = some (.slice (q k).A (q k).e.l.length (q k).c) := x1
    have i0 : (0 : Int) ≤ (k : Int) := by omega
    have i1 : (k : Int) < (n : Int) := by omega
    have i2 : (k : Int) ≤ 30 := by omega
    have d1 : decide ((k : Int) < (n : Int)) = true := by simpa using h1
    have d2 : decide ((k : Int) ≤ 30) = true := by simpa using i2
    go_wp2_with fail
    refine (HF.out _ HB.out).mono ?_; rintro e w1 ⟨rfl, hb1⟩
    have HB1 := Lib.hid (below_step HB.out hb1)
    clear hb1 HF
    generalize fewOne q k = b at *
    cases b with
    | true =>
     go_wp2_with fail
     go_roundw
     case rel => exact ⟨k + 1, by omega, by omega, by go_num, HNX.out (by trivial), HB1.out⟩
     case measure => simp [intOf]; omega
    | false =>
     go_wp2_with fail
     go_ret
     rw [HNO.out (by trivial)]
     exact ⟨rfl, HB1.out⟩
  · by_cases hkn : k < n
    · have d1 : decide ((k : Int) < (n : Int)) = true := by simpa using hkn
      have d2 : decide ((k : Int) ≤ 30) = false := by simp; omega
      have d3 : decide ((n : Int) ≤ 30) = false := by simp; omega
      have HR := Lib.hid (fewR_many (q := q) (n := n) (by omega))
      go_wp2_with fail
      go_ret
      rw [HR.out]
      exact ⟨rfl, hb⟩
    · have e : k = n := by omega
      subst e
      have d1 : decide ((k : Int) < (k : Int)) = false := by simp
      by_cases h10 : k ≤ 30
      · have hr := fewR_all h10 hall
        have d3 : decide ((k : Int) ≤ 30) = true := by simp; omega
        have HR := Lib.hid hr; clear hr
        go_wp2_with fail
        go_ret
        rw [HR.out]
        exact ⟨rfl, hb⟩
      · have HR := Lib.hid (fewR_many (q := q) (n := k) (by omega))
        have d3 : decide ((k : Int) ≤ 30) = false := by simp; omega
        go_wp2_with fail
        go_ret
        rw [HR.out]
        exact ⟨rfl, hb⟩
end Go.Proofs.YtliobahnekohmaaGreat
