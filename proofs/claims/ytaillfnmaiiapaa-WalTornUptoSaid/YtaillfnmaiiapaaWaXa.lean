/-
  The laws' fixed example, as mathematics.
-/
import Derived.Test.YtaillfnmaiiapaaWaWd
namespace Go.Proofs.Ytaillfnmaiiapaa
open Go.RowKit
namespace Wa
def ex2 : Nat → Rec := fun _ => ⟨2, [], 5, 0, 0⟩
def exL : List Lab := [(⟨#[97]⟩, ⟨#[120]⟩)]
def ex1 : Nat → Rec := fun _ => ⟨0, exL, 1, 0, 2⟩
set_option maxRecDepth 100000 in
theorem ex2_put : (putR 2 [] ex2 1).2.2 = 0 ∧ (putR 2 [] ex2 1).1.size = 7 ∧ (putR 2 [] ex2 1).1.extract 0 3 = ⟨#[2, 2, 5]⟩ := by decide +kernel
set_option maxRecDepth 100000 in
theorem ex2_read : (read (hd 2 ++ (putR 2 [] ex2 1).1)).err = 0 ∧ (read (hd 2 ++ (putR 2 [] ex2 1).1)).recs.length = 1 ∧ ((read (hd 2 ++ (putR 2 [] ex2 1).1)).recs.map (·.t)) = [5] ∧ (read (hd 2 ++ (putR 2 [] ex2 1).1)).torn = false ∧ (read (hd 2 ++ (putR 2 [] ex2 1).1)).used = 17 := by decide +kernel
set_option maxRecDepth 100000 in
theorem ex2_torn : (read (hd 2 ++ ⟨#[2, 2, 5]⟩)).err = 0 ∧ (read (hd 2 ++ ⟨#[2, 2, 5]⟩)).recs.length = 0 ∧ (read (hd 2 ++ ⟨#[2, 2, 5]⟩)).torn = true ∧ (read (hd 2 ++ ⟨#[2, 2, 5]⟩)).used = 10 := by decide +kernel
set_option maxRecDepth 100000 in
theorem ex1_put : (putR 1 [] ex1 1).2.2 = 0 ∧ (putR 1 [] ex1 1).1.size = 186 := by decide +kernel
def exR : Nat → Row := fun _ => ⟨1, ex1⟩
theorem ex1_words : Words (ex1 0) := ⟨by show (-9223372036854775808 : Int) ≤ 1; decide, by show (1 : Int) ≤ 9223372036854775807; decide, by show (-9223372036854775808 : Int) ≤ 0; decide, by show (0 : Int) ≤ 9223372036854775807; decide, by show (2 : Nat) < 18446744073709551616; decide⟩
theorem ex1_read : read (hd 1 ++ (putR 1 [] ex1 1).1) = ⟨1, 0, (rows 1 exR 1).2, [ex1 0], 10 + (putR 1 [] ex1 1).1.size, false, 0⟩ := by
  have hok : rowsOk 1 exR 1 := fun i hi => by
    have e : i = 0 := by omega
    subst e
    exact ex1_put.1
  obtain ⟨P, pi, hp⟩ := pieces (g := 1) (R := exR) (fun _ _ _ => ex1_words) 1 (by decide) hok
  have h := read_rows (g := 1) (by decide) hp
  have e : (rows 1 exR 1).1 = (putR 1 [] ex1 1).1 := ByteArray.empty_append
  rw [e] at h
  exact h
end Wa
end Go.Proofs.Ytaillfnmaiiapaa
