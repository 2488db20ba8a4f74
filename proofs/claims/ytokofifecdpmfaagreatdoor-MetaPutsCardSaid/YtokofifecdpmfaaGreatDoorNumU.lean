/-
  What the functions of the reference alluviumref03 come to: GetTake, GetWide.
-/
import Derived.Test.YtokofifecdpmfaaGreatDoorNumO
namespace Go.Proofs.YtokofifecdpmfaaGreatDoor
open Go.RowKit

theorem whole (s : ByteArray) (k : Nat) (h : ¬ k < s.size) : s = s.extract 0 k := by
  apply ByteArray.ext; apply Array.toList_inj.1
  simp [ByteArray.data_extract, Array.toList_extract]
  rw [List.take_of_length_le (by simp; omega)]

theorem Num.num_drop (s : ByteArray) (k : Nat) (h : k < s.size) (m : Nat) (_hm : k < m) : num ((s.data.toList.take m).drop k) = s[k].toNat + 256 * num ((s.data.toList.take m).drop (k + 1)) := by
  have hl : k < (s.data.toList.take m).length := by simp; omega
  rw [List.drop_eq_getElem_cons hl, num]
  congr 1
  simp
  rfl

set_option maxRecDepth 100000 in
set_option maxHeartbeats 400000 in
theorem rGetWide_any (s : ByteArray) (hs : s.size ≤ 1000) (w : World) :
    Calls Tryz.prog 78 #[.string s] w fun e w' => e = .returned (.tuple #[.int .u64 ((if decide (8 ≤ s.size) = true then Num.num (s.data.toList.take 8) else 0 : Nat) : Int), .string (if decide (8 ≤ s.size) = true then s.extract 8 s.size else s), .bool (decide (8 ≤ s.size))]) ∧ Below w.heap.size w w' := by
  by_cases h : 8 ≤ s.size
  · have hd : decide ((s.size : Int) < 8) = false := by simp; omega
    have ht : decide (8 ≤ s.size) = true := by simpa using h
    simp only [ht, if_true]; clear ht
    go_enter Tryz.func78, Tryz.ntmps78
    go_wp2
    go_loop [5, 6] (fun v i => ∃ k : Nat, k ≤ 8 ∧ i = .int .i64 ((k : Int) - 1) ∧ v = .int .u64 ((Num.num ((s.data.toList.take 8).drop k) : Nat) : Int)) (fun _ i => ((intOf i) + 1).toNat)
    case atStart => exact ⟨8, by omega, rfl, by simp [Num.num]⟩
    case round =>
      obtain ⟨k, hk, rfl, rfl⟩ := hrel
      cases k with
      | zero =>
        have hq : Num.num ((s.data.toList.take 8).drop 0) = Num.num (s.data.toList.take 8) := rfl
        rw [hq]
        clear hq
        go_wp2
        go_quiet (fail)
        all_goals go_wp2
        all_goals go_ret3
        all_goals exact ⟨rfl, below_drewN (Below.refl _ _) _⟩
      | succ j =>
        have e1 : (((j + 1 : Nat) : Int) - 1) = (j : Int) := by omega
        rw [e1]
        have hj : j < s.size := by omega
        have hn := Num.num_drop s j hj 8 (by omega)
        have hlt := Num.num_lt ((s.data.toList.take 8).drop (j + 1))
        have hlt2 := Num.num_lt ((s.data.toList.take 8).drop j)
        have hp1 : 256 ^ ((s.data.toList.take 8).drop (j + 1)).length ≤ 256 ^ 7 := Nat.pow_le_pow_right (by decide) (by simp; omega)
        have hb := s[j].toNat_lt
        have hj0 : (0 : Int) ≤ (j : Int) := by omega
        have HN := Lib.hid hn; clear hn hlt2
        generalize Num.num ((s.data.toList.take 8).drop (j + 1)) = q at *
        have HQ2 : Hid (q < 72057594037927936) := Lib.hid (by have : (256 : Nat) ^ 7 = 72057594037927936 := by decide
                                                              omega)
        clear hlt hp1
        have hw1 : IntKind.u64.wrap ((q : Int) * 256) = (q : Int) * 256 := by have := HQ2.out; rw [IntKind.wrap_u64]; omega
        have hw2 : IntKind.u64.wrap ((q : Int) * 256 + (s[j].toNat : Int)) = ((s[j].toNat + 256 * q : Nat) : Int) := by have := HQ2.out; rw [IntKind.wrap_u64]; omega
        go_wp2
        refine ⟨⟨j, by omega, rfl, ?_⟩, by simp [intOf]⟩
        rw [HN.out]; push_cast; rfl
  · have hd : decide ((s.size : Int) < 8) = true := by simp; omega
    have ht : decide (8 ≤ s.size) = false := by simpa using h
    simp only [ht, Bool.false_eq_true, if_false]; clear ht
    go_enter Tryz.func78, Tryz.ntmps78
    go_wp2
    go_ret3
    exact ⟨rfl, Below.refl _ _⟩
end Go.Proofs.YtokofifecdpmfaaGreatDoor
