/-
  Rows of texts that are alike; what texts of the laws of frame comes to.
-/
import Derived.Test.YteohhcnadoaciaaFrP
namespace Go.Proofs.Yteohhcnadoaciaa
open Go.RowKit

/-- a slice of texts: what its cells hold -/
def TxtRow (w : World) (A : Option Addr) (n : Nat) (f : Nat → ByteArray) : Prop :=
  0 < n → ∃ ad, A = some ad ∧ ad.block < w.heap.size ∧ ∀ i, i < n → w.cell? (ad.add i) = some (.string (f i))
theorem TxtRow.at_ {w w2 : World} {A : Option Addr} {n : Nat} {f : Nat → ByteArray} (h : TxtRow w A n f) (hb : Below w.heap.size w w2) {i : Nat} (hi : i < n) :
    ∃ ad, A = some ad ∧ w2.cell? (ad.add i) = some (.string (f i)) := by
  obtain ⟨ad, e, hlt, hc⟩ := h (by omega)
  have hbl : ∀ j, (ad.add j).block = ad.block := fun j => by unfold Addr.add; split <;> rfl
  exact ⟨ad, e, (hb.cell (by rw [hbl]; exact hlt)).trans (hc i hi)⟩
theorem TxtRow.later {w w2 : World} {A : Option Addr} {n : Nat} {f : Nat → ByteArray} (h : TxtRow w A n f) (hb : Below w.heap.size w w2) : TxtRow w2 A n f := fun hn => by
  obtain ⟨ad, e, hlt, hc⟩ := h hn
  have hbl : ∀ j, (ad.add j).block = ad.block := fun j => by unfold Addr.add; split <;> rfl
  exact ⟨ad, e, Nat.lt_of_lt_of_le hlt hb.size, fun i hi => (hb.cell (by rw [hbl]; exact hlt)).trans (hc i hi)⟩
theorem StrRow.txt {w : World} {A : Option Addr} {n : Nat} {f : Nat → ByteArray} (h : StrRow w A n f) : TxtRow w A n f := fun hn => by
  obtain ⟨ad, e, hlt, hc⟩ := h hn
  exact ⟨ad, e, hlt, fun i hi => (hc i hi).1⟩
theorem TxtRow.less {w : World} {A : Option Addr} {n m : Nat} {f : Nat → ByteArray} (h : TxtRow w A n f) (hm : m ≤ n) : TxtRow w A m f := fun hn => by
  obtain ⟨ad, e, hlt, hc⟩ := h (by omega)
  exact ⟨ad, e, hlt, fun i hi => hc i (by omega)⟩
/-- a row of the call's own -/
theorem own_txt {w : World} {base : Nat} {e : TypeId} {v : Value} {L : List ByteArray} (h : w.ownsRow base e 1 v L.length (L.map Value.string)) : ∃ A c, v = .slice A L.length c ∧ TxtRow w A L.length (fun i => L.getD i ByteArray.empty) := by
  rcases h.2 with ⟨rfl, h0⟩ | ⟨g, cap, cur, rfl, hb, hg, _⟩
  · have hz : L.length = 0 := h0
    exact ⟨none, 0, by rw [hz], fun hn => by omega⟩
  · refine ⟨some ⟨g, 0, none⟩, cap, rfl, fun _ => ⟨⟨g, 0, none⟩, rfl, (Array.getElem?_eq_some_iff.1 hg).1, fun i hi => ?_⟩⟩
    rw [Addr.add_lit, Nat.zero_add, World.ownsRow.cellAt h i (by omega)]
    simp [List.getD, hi]

set_option maxRecDepth 100000 in
set_option maxHeartbeats 400000 in
theorem texts_yes (A B : Option Addr) (n c d : Nat) (hn : n ≤ maxLen) (f g : Nat → ByteArray) (hfg : ∀ i, i < n → f i = g i) (w : World) (hA : TxtRow w A n f) (hB : TxtRow w B n g) :
    Calls Try.prog 17 #[.slice A n c, .slice B n d] w fun e w' => e = .returned (.bool true) ∧ Below w.heap.size w w' := by
  unfold maxLen at hn
  have HA := Lib.hid hA; have HB := Lib.hid hB; have HFG := Lib.hid hfg
  clear hA hB hfg
  go_enter Try.func17, Try.ntmps17
  go_wp2_with fail
  go_loopw [5] (fun i wr => ∃ k : Nat, k ≤ n ∧ i = .int .i64 k ∧ Below w.heap.size w wr) (fun i _ => n - (intOf i).toNat)
  case atStart => exact ⟨0, by omega, rfl, Below.refl _ _⟩
  case round =>
    obtain ⟨k, hk, rfl, hb⟩ := hrel
    have HBL := Lib.hid hb; clear hb
    by_cases hlt : k < n
    · obtain ⟨ad, rfl, c0⟩ := HA.out.at_ HBL.out hlt
      obtain ⟨bd, rfl, c1⟩ := HB.out.at_ HBL.out hlt
      have he : (!((f k).toList == (g k).toList)) = false := by rw [HFG.out k hlt]; simp
      have i1 : (k : Int) < (n : Int) := by omega
      have i0 : (0 : Int) ≤ (k : Int) := by omega
      generalize f k = x at *
      generalize g k = y at *
      go_wp2_with fail
      go_quiet (fail)
      go_wp2_with fail
      go_roundw
      case rel => exact ⟨k + 1, by omega, by go_num, below_drewN HBL.out _⟩
      case measure => simp [intOf]; omega
    · go_wp2_with fail
      go_ret
      exact ⟨rfl, HBL.out⟩
end Go.Proofs.Yteohhcnadoaciaa
