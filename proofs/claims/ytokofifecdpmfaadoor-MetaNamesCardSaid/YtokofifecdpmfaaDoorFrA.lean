/-
  What the functions of package frame come to: Put, mayGoOn, Head.
-/
import Derived.Test.YtokofifecdpmfaaDoorFrM
import Derived.Deep.DeepMust
namespace Go.Proofs.YtokofifecdpmfaaDoor
open Go.RowKit

set_option maxRecDepth 100000 in
set_option maxHeartbeats 400000 in
theorem TextW_any (s : ByteArray) (hs : s.size ≤ 281474976710656) (w : World) :
    Calls Tryd.prog 41 #[.string s] w fun e w' => e = .returned (.string (Fr.txt s)) ∧ Below w.heap.size w w' := by
  have hw := Num.wrap_small s.size (by omega)
  have hz : (Num.smallB s.size).size ≤ 10 := Num.enc_length_le 9 _
  have HZ := Lib.hid hz; clear hz
  have HS := Lib.hid hs; clear hs
  go_enter Tryd.func41, Tryd.ntmps41
  go_wp2_with fail
  refine (Small_any s.size (Lib.hid (by have := HS.out; omega)) _).mono ?_; rintro e w1 ⟨rfl, hb⟩
  have HB := Lib.hid hb; clear hb
  have hs := HS.out
  have hz := HZ.out
  have hsum : ¬ 9223372036854775807 < (Num.smallB s.size).size + s.size := by omega
  go_wp2_with fail
  go_ret
  exact ⟨rfl, HB.out⟩

set_option maxRecDepth 100000 in
set_option maxHeartbeats 400000 in
theorem Put_any (s : ByteArray) (hs : s.size ≤ 281474976710656) (w : World) :
    Calls Tryd.prog 23 #[.string s] w fun e w' => e = .returned (.string (Fr.put s)) ∧ Below w.heap.size w w' := by
  have hz : (Fr.txt s).size ≤ 10 + s.size := by rw [Fr.txt_size]; have := Fr.small_le s.size; omega
  have HZ := Lib.hid hz; clear hz
  go_enter Tryd.func23, Tryd.ntmps23
  go_wp2_with fail
  refine (TextW_any s hs _).mono ?_; rintro e w1 ⟨rfl, hb⟩
  have HB := Lib.hid hb; clear hb
  have hz := HZ.out
  have htl : (Fr.txt s).size ≤ maxLen := by unfold maxLen; omega
  have HTL := Lib.hid htl; clear htl
  have h4 := Crc.four_size (Crc.ofB (Fr.txt s))
  have hput : Fr.txt s ++ Crc.four (Crc.ofB (Fr.txt s)) = Fr.put s := rfl
  generalize hT : Fr.txt s = t at *
  have HP := Lib.hid hput; clear hput hT
  go_wp2_with fail
  refine (Tail_any t HTL.out _).mono ?_; rintro e w2 ⟨rfl, hb2⟩
  have HB2 := Lib.hid (below_step HB.out hb2); clear hb2
  generalize Crc.four (Crc.ofB t) = c at *
  have hsum : ¬ 9223372036854775807 < t.size + c.size := by omega
  have H4 := Lib.hid h4; clear h4
  go_wp2_with fail
  go_ret
  exact ⟨by rw [HP.out]; rfl, HB2.out⟩

set_option maxRecDepth 100000 in
set_option maxHeartbeats 400000 in
theorem mayGoOn_any (s : ByteArray) (hs : s.size ≤ maxLen) (w : World) :
    Calls Tryd.prog 45 #[.string s] w fun e w' => e = .returned (.bool (Fr.mayGo s)) ∧ w = w' := by
  unfold maxLen at hs
  have hall : Fr.mayGo s = (s.data.toList.all (fun b => decide (128 ≤ b.toNat)) && decide (s.size < 10)) := rfl
  generalize Fr.mayGo s = g at *
  have HG := Lib.hid hall; clear hall
  go_enter Tryd.func45, Tryd.ntmps45
  go_wp2_with fail
  go_loop [6] (fun i => ∃ k : Nat, k ≤ s.size ∧ i = .int .i64 k ∧ (s.data.toList.take k).all (fun b => decide (128 ≤ b.toNat)) = true) (fun i => s.size - (intOf i).toNat)
  case atStart => exact ⟨0, by omega, rfl, rfl⟩
  case round =>
    obtain ⟨k, hk, rfl, ha⟩ := hrel
    have HA := Lib.hid ha; clear ha
    by_cases hlt : k < s.size
    · have hsn := Crc.take_snoc s k hlt
      have HSN := Lib.hid hsn; clear hsn
      have hb := s[k].toNat_lt
      by_cases h128 : s[k].toNat < 128
      · have HC := Lib.hid h128
        go_wp2_with fail
        go_ret
        refine ⟨?_, rfl⟩
        rw [HG.out]
        have hsp : s.data.toList = s.data.toList.take (k + 1) ++ s.data.toList.drop (k + 1) := (List.take_append_drop _ _).symm
        have : s.data.toList.all (fun b => decide (128 ≤ b.toNat)) = false := by
          rw [hsp, HSN.out]
          have := HC.out
          simp only [List.all_append, List.all_cons, List.all_nil]
          rw [show decide (128 ≤ s[k].toNat) = false from by simp; omega]
          simp
        rw [this]; rfl
      · have HC := Lib.hid h128
        go_wp2_with fail
        go_round
        case rel =>
          refine ⟨k + 1, by omega, by go_num, ?_⟩
          rw [HSN.out]
          have := HC.out
          simp only [List.all_append, List.all_cons, List.all_nil, HA.out]
          rw [show decide (128 ≤ s[k].toNat) = true from by simp; omega]
          rfl
        case measure => simp [intOf]; omega
    · have hE : s.data.toList.all (fun b => decide (128 ≤ b.toNat)) = true := by
        have := HA.out
        rwa [List.take_of_length_le (by simp; omega)] at this
      have HE := Lib.hid hE; clear hE
      go_wp2_with fail
      go_ret
      refine ⟨?_, rfl⟩
      rw [HG.out, HE.out]
      simp; omega
end Go.Proofs.YtokofifecdpmfaaDoor
