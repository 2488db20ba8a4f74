/-
  What the functions of package crc come to: Of, Tail, Good.
-/
import Derived.Test.YtokofifecdpmfaaGreatDoorCrcB
namespace Go.Proofs.YtokofifecdpmfaaGreatDoor
open Go.RowKit
namespace Crc
/-- the check of bytes -/
def ofB (s : ByteArray) : Nat := 4294967295 - run 4294967295 s.data.toList
/-- a number's four bytes, the lowest first -/
def fourL (c : Nat) : List Int := [(c : Int) % 256, (c : Int) / 256 % 256, (c : Int) / 65536 % 256, (c : Int) / 16777216]
def four (c : Nat) : ByteArray := strOfNums (fourL c)
/-- a text without its check, if that is right -/
def good (s : ByteArray) : ByteArray × Bool :=
  if s.size < 4 then (ByteArray.empty, false)
  else if s.extract (s.size - 4) s.size = four (ofB (s.extract 0 (s.size - 4))) then (s.extract 0 (s.size - 4), true) else (ByteArray.empty, false)
theorem ofB_lt (s : ByteArray) : ofB s < 4294967296 := by unfold ofB; omega
end Crc

set_option maxRecDepth 100000 in
set_option maxHeartbeats 400000 in
theorem Of_any (s : ByteArray) (hs : s.size ≤ maxLen) (w : World) :
    Calls Tryz.prog 69 #[.string s] w fun e w' => e = .returned (.int .u32 (Crc.ofB s : Nat)) ∧ Below w.heap.size w w' := by
  go_enter Tryz.func69, Tryz.ntmps69
  go_wp2_with (go_at_call 89; refine (On_any 0 (by omega) s hs _).mono ?_; rintro e w1 ⟨rfl, hb⟩; have HB := Lib.hid hb; clear hb)
  go_ret
  exact ⟨rfl, HB.out⟩

theorem four_back (w : World) (b : Nat) (c : Nat) (hc : w.heap[b]? = some (.cells #[.int .u8 ((c : Int) % 256), .int .u8 ((c : Int) / 256 % 256), .int .u8 ((c : Int) / 65536 % 256), .int .u8 ((c : Int) / 16777216)] 5 (0, 0))) :
    (convert 71 9 (.slice (some ⟨b, 0, none⟩) 4 4)).run Tryz.prog w = .ok (.string (Crc.four c)) w :=
  run_convert_bytes_arg (P := Tryz.prog) w 71 5 Tryz.underlying71 Tryz.underlying5 b 0 4 4 (Crc.fourL c) rfl (fun i hi => by
    rw [Nat.zero_add, cell_of_row w b i _ _ _ hc]
    match i, hi with
    | 0, _ => rfl
    | 1, _ => rfl
    | 2, _ => rfl
    | 3, _ => rfl) 9 Tryz.underlying9

set_option maxRecDepth 100000 in
set_option maxHeartbeats 400000 in
theorem Tail_any (s : ByteArray) (hs : s.size ≤ maxLen) (w : World) :
    Calls Tryz.prog 40 #[.string s] w fun e w' => e = .returned (.string (Crc.four (Crc.ofB s))) ∧ Below w.heap.size w w' := by
  go_enter Tryz.func40, Tryz.ntmps40
  have hlt := Crc.ofB_lt s
  go_wp2_with (go_at_call 69; refine (Of_any s hs _).mono ?_; rintro e w1 ⟨rfl, hb⟩; have HB := Lib.hid hb; clear hb; generalize hC : Crc.ofB s = c at *; have HC := Lib.hid hC; clear hC)
  rw [four_back _ _ c (heap_alloc_new w1 _)]
  go_wp2
  go_ret
  exact ⟨by rw [HC.out]; rfl, HB.out.alloc HB.out.size _⟩

set_option maxRecDepth 100000 in
set_option maxHeartbeats 400000 in
theorem Good_any (s : ByteArray) (hs : s.size ≤ maxLen) (w : World) :
    Calls Tryz.prog 51 #[.string s] w fun e w' => e = .returned (.tuple #[.string (Crc.good s).1, .bool (Crc.good s).2]) ∧ Below w.heap.size w w' := by
  by_cases hlt : s.size < 4
  · have hg : Crc.good s = (ByteArray.empty, false) := by unfold Crc.good; rw [if_pos hlt]
    rw [hg]
    have hd : decide ((s.size : Int) - 4 < 0) = true := by simp; omega
    clear hg
    go_enter Tryz.func51, Tryz.ntmps51
    go_wp2
    go_quiet (fail)
    go_wp2
    go_ret2
    exact ⟨rfl, below_drewN (Below.refl _ _) _⟩
  · obtain ⟨n, hn⟩ : ∃ n : Nat, s.size - 4 = n := ⟨_, rfl⟩
    have hg : Crc.good s = if s.extract n s.size = Crc.four (Crc.ofB (s.extract 0 n)) then (s.extract 0 n, true) else (ByteArray.empty, false) := by
      unfold Crc.good; rw [if_neg hlt, hn]
    have hb := str_beq (s.extract n s.size) (Crc.four (Crc.ofB (s.extract 0 n)))
    have h0 : (s.size : Int) - 4 = n := by omega
    have h1 : (0 : Int) ≤ (n : Int) := by omega
    have h2 : (n : Int) ≤ s.size := by omega
    have hd : decide ((n : Int) < 0) = false := by simp
    unfold maxLen at hs
    clear hn
    have HB := Lib.hid hb; clear hb
    have HG := Lib.hid hg; clear hg
    go_enter Tryz.func51, Tryz.ntmps51
    go_wp2
    go_region_held3 (fun w' => Below w.heap.size w w') (first | exact Below.refl _ _ | exact Below.drew (Below.refl _ _) | assumption | exact Below.drew ‹_›)
      (first | (go_at_call 40; refine (Tail_any _ (by unfold maxLen; simp; omega) _).mono ?_; rintro e w1 ⟨rfl, hb⟩; replace hb := below_step (by assumption) hb))
    go_wp2
    · have ht : (!((s.extract n s.size).toList == (Crc.four (Crc.ofB (s.extract 0 n))).toList)) = true := by assumption
      go_ret2
      rw [HB.out] at ht
      rw [HG.out, if_neg (by simpa using ht)]
      exact ⟨rfl, hb⟩
    · have ht : (!((s.extract n s.size).toList == (Crc.four (Crc.ofB (s.extract 0 n))).toList)) = false := by assumption
      go_ret2
      rw [HB.out] at ht
      rw [HG.out, if_pos (by simpa using ht)]
      exact ⟨rfl, hb⟩
end Go.Proofs.YtokofifecdpmfaaGreatDoor
