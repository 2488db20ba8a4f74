/-
  The reference's Good, and the document's example (works).
-/
import Derived.Test.YtjamkglmdhblbaaRefB
namespace Go.Proofs.Ytjamkglmdhblbaa
open Go.RowKit

set_option maxHeartbeats 400000 in
theorem rGood_any (s : ByteArray) (hs : s.size ≤ maxLen) (w : World) :
    Calls Try.prog 11 #[.string s] w fun e w' => e = .returned (.tuple #[.string (Crc.good s).1, .bool (Crc.good s).2]) ∧ Below w.heap.size w w' := by
  by_cases hlt : s.size < 4
  · have hg : Crc.good s = (ByteArray.empty, false) := by unfold Crc.good; rw [if_pos hlt]
    rw [hg]
    have hd : decide ((s.size : Int) - 4 < 0) = true := by simp; omega
    clear hg
    go_enter Try.func11, Try.ntmps11
    go_wp2
    go_ret2
    exact ⟨rfl, Below.refl _ _⟩
  · obtain ⟨n, hn⟩ : ∃ n : Nat, s.size - 4 = n := ⟨_, rfl⟩
    have hg : Crc.good s = if s.extract n s.size = Crc.four (Crc.ofB (s.extract 0 n)) then (s.extract 0 n, true) else (ByteArray.empty, false) := by
      unfold Crc.good; rw [if_neg hlt, hn]
    have hb := str_beq (s.extract n s.size) (Crc.four (Crc.ofB (s.extract 0 n)))
    have h0 : (s.size : Int) - 4 = n := by omega
    have h1 : (0 : Int) ≤ (n : Int) := by omega
    have h2 : (n : Int) ≤ s.size := by omega
    have hd : decide ((n : Int) < 0) = false := by simp
    unfold maxLen at hs
    clear hn
    have HB := Lib.hid hb; clear hb
    have HG := Lib.hid hg; clear hg
    go_enter Try.func11, Try.ntmps11
    go_wp2
    go_region_held3 (fun w' => Below w.heap.size w w') (first | exact Below.refl _ _ | exact Below.drew (Below.refl _ _) | assumption | exact Below.drew ‹_›)
      (first | (go_at_call 17; refine (rTail_any _ (by unfold maxLen; simp; omega) _).mono ?_; rintro e w1 ⟨rfl, hb⟩; replace hb := below_step (by assumption) hb))
    go_wp2
    · have ht : (!((s.extract n s.size).toList == (Crc.four (Crc.ofB (s.extract 0 n))).toList)) = true := by assumption
      go_ret2
      rw [HB.out] at ht
      rw [HG.out, if_neg (by simpa using ht)]
      exact ⟨rfl, hb⟩
    · have ht : (!((s.extract n s.size).toList == (Crc.four (Crc.ofB (s.extract 0 n))).toList)) = false := by assumption
      go_ret2
      rw [HB.out] at ht
      rw [HG.out, if_pos (by simpa using ht)]
      exact ⟨rfl, hb⟩

theorem Crc.ex1 : ofB ⟨#[49, 50, 51, 52, 53, 54, 55, 56, 57]⟩ = 3808858755 := by decide +kernel
theorem Crc.ex2 : four (ofB ⟨#[97, 98]⟩) = ⟨#[54, 41, 162, 226]⟩ := by decide +kernel
theorem Crc.ex3 : good (⟨#[97, 98]⟩ ++ ⟨#[54, 41, 162, 226]⟩) = (⟨#[97, 98]⟩, true) := by decide +kernel
theorem Crc.ex4 : good ⟨#[97, 98, 99]⟩ = (ByteArray.empty, false) := by decide +kernel
theorem Crc.ex5 : ofB ⟨#[49, 50, 51, 52]⟩ = 4131058926 := by decide +kernel
theorem Crc.ex6 : 4294967295 - run (4294967295 - 4131058926) (ByteArray.data ⟨#[53, 54, 55, 56, 57]⟩).toList = 3808858755 := by decide +kernel
theorem Crc.ex7 : four (ofB ⟨#[120]⟩) = ⟨#[147, 95, 60, 169]⟩ := by decide +kernel
theorem Crc.ex8 : ofB ⟨#[]⟩ = 0 := by decide +kernel

set_option maxHeartbeats 400000 in
theorem works_any (w : World) :
    Calls Try.prog 9 #[] w fun e w' => e = .returned (.bool true) ∧ Below w.heap.size w w' := by
  go_enter Try.func9, Try.ntmps9
  go_wp2_with fail
  refine (Of_any _ (by decide) _).mono ?_; rintro e w1 ⟨rfl, hb1⟩; rw [Crc.ex1]; have HB1 := Lib.hid hb1; clear hb1
  go_wp2_with fail
  refine (Tail_any _ (by decide) _).mono ?_; rintro e w2 ⟨rfl, hb2⟩; rw [Crc.ex2]; have HB2 := Lib.hid (below_step HB1.out hb2); clear hb2 HB1
  go_wp2_with fail
  refine (Good_any _ (by decide) _).mono ?_; rintro e w3 ⟨rfl, hb3⟩
  rw [Crc.ex3]; have HB3 := Lib.hid (below_step HB2.out hb3); clear hb3 HB2
  go_wp2_with fail
  refine (Good_any _ (by decide) _).mono ?_; rintro e w4 ⟨rfl, hb4⟩
  rw [Crc.ex4]; have HB4 := Lib.hid (below_step HB3.out hb4); clear hb4 HB3
  go_wp2_with fail
  refine (Of_any _ (by decide) _).mono ?_; rintro e w5 ⟨rfl, hb5⟩; rw [Crc.ex5]; have HB5 := Lib.hid (below_step HB4.out hb5); clear hb5 HB4
  go_wp2_with fail
  refine (On_any _ (by decide) _ (by decide) _).mono ?_; rintro e w6 ⟨rfl, hb6⟩; rw [Crc.ex6]; have HB6 := Lib.hid (below_step HB5.out hb6); clear hb6 HB5
  go_wp2_with fail
  refine (Tail_any _ (by decide) _).mono ?_; rintro e w7 ⟨rfl, hb7⟩; rw [Crc.ex7]; have HB7 := Lib.hid (below_step HB6.out hb7); clear hb7 HB6
  go_wp2_with fail
  refine (Of_any _ (by decide) _).mono ?_; rintro e w8 ⟨rfl, hb8⟩; rw [Crc.ex8]; have HB8 := Lib.hid (below_step HB7.out hb8); clear hb8 HB7
  go_wp2_with fail
  go_ret
  exact ⟨rfl, HB8.out⟩
end Go.Proofs.Ytjamkglmdhblbaa
