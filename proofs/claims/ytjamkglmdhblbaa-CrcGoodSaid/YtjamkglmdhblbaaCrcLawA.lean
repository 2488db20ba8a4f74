/-
  CrcParts, CrcEnd, CrcGood: the walks of the laws.
-/
import Derived.Test.YtjamkglmdhblbaaRefC
import Derived.Test.YtjamkglmdhblbaaMathB
namespace Go.Proofs.Ytjamkglmdhblbaa
open Go.RowKit

theorem Crc.parts1 (a b : ByteArray) : 4294967295 - run (4294967295 - ofB a) b.data.toList = ofB (a ++ b) := by
  have hs := run_lt a.data.toList (c := 4294967295) (by omega)
  unfold ofB
  rw [data_append, run_append, show 4294967295 - (4294967295 - run 4294967295 a.data.toList) = run 4294967295 a.data.toList from by omega]
theorem Crc.parts2 (c : Nat) (hc : c < 4294967296) (a b : ByteArray) : 4294967295 - run (4294967295 - (4294967295 - run (4294967295 - c) a.data.toList)) b.data.toList = 4294967295 - run (4294967295 - c) (a ++ b).data.toList := by
  have hs := run_lt a.data.toList (c := 4294967295 - c) (by omega)
  rw [data_append, run_append, show 4294967295 - (4294967295 - run (4294967295 - c) a.data.toList) = run (4294967295 - c) a.data.toList from by omega]

theorem Crc.parts3 (c : Nat) (hc : c < 4294967296) : 4294967295 - run (4294967295 - c) ByteArray.empty.data.toList = c := by
  show 4294967295 - (4294967295 - c) = c
  omega

set_option maxHeartbeats 400000 in
theorem crcParts_walk (w : World) (a : ByteArray) (ha : a.size ≤ maxLen) (b : ByteArray) (hb : b.size ≤ maxLen) (c : Int) (hc : (Lit.int .u32 c).wf = true) :
    Calls Try.prog 4 #[.string a, .string b, .int .u32 c] w fun e w' => e = .returned (.bool true) ∧ Below w.heap.size w w' := by
  obtain ⟨n, rfl, hn⟩ := u32_nat c hc
  by_cases hl : a.size ≤ 600 ∧ b.size ≤ 600
  · obtain ⟨hl1, hl2⟩ := hl
    have hd1 : decide ((600 : Int) < (a.size : Int)) = false := by simp; omega
    have hd2 : decide ((600 : Int) < (b.size : Int)) = false := by simp; omega
    have hab : (a ++ b).size ≤ maxLen := by unfold maxLen; simp [ByteArray.size_append]; omega
    go_enter Try.func4, Try.ntmps4
    have HB0 := Lib.hid (Below.refl w.heap.size w)
    go_wp2_with fail
    refine (works_any _).mono ?_; rintro e w1 ⟨rfl, hb1⟩; have HB1 := Lib.hid (below_step HB0.out hb1); clear hb1 HB0
    go_wp2_with fail
    refine (Of_any (a ++ b) hab _).mono ?_; rintro e w2 ⟨rfl, hb2⟩; have HB2 := Lib.hid (below_step HB1.out hb2); clear hb2 HB1
    go_wp2_with fail
    refine (Of_any a ha _).mono ?_; rintro e w3 ⟨rfl, hb3⟩; have HB3 := Lib.hid (below_step HB2.out hb3); clear hb3 HB2; have hlo := Crc.ofB_lt a; have HLO := Lib.hid hlo; clear hlo
    go_wp2_with fail
    refine (On_any (Crc.ofB a) HLO.out b hb _).mono ?_; rintro e w4 ⟨rfl, hb4⟩; have HB4 := Lib.hid (below_step HB3.out hb4); clear hb4 HB3; rw [Crc.parts1]
    go_wp2_with fail
    refine (On_any n hn (a ++ b) hab _).mono ?_; rintro e w5 ⟨rfl, hb5⟩; have HB5 := Lib.hid (below_step HB4.out hb5); clear hb5 HB4
    go_wp2_with fail
    refine (On_any n hn a ha _).mono ?_; rintro e w6 ⟨rfl, hb6⟩; have HB6 := Lib.hid (below_step HB5.out hb6); clear hb6 HB5
    go_wp2_with fail
    refine (On_any (4294967295 - Crc.run (4294967295 - n) a.data.toList) (by omega) b hb _).mono ?_; rintro e w7 ⟨rfl, hb7⟩; have HB7 := Lib.hid (below_step HB6.out hb7); clear hb7 HB6; rw [Crc.parts2 n hn]
    go_wp2_with fail
    refine (On_any n hn ByteArray.empty (by decide) _).mono ?_; rintro e w8 ⟨rfl, hb8⟩; have HB8 := Lib.hid (below_step HB7.out hb8); clear hb8 HB7; rw [show (4294967295 - Crc.run (4294967295 - n) ByteArray.empty.data.toList) = n from Crc.parts3 n hn]
    go_wp2_with fail
    go_ret
    exact ⟨by simp, HB8.out⟩
  · have hd : decide ((600 : Int) < (a.size : Int)) = true ∨ (decide ((600 : Int) < (a.size : Int)) = false ∧ decide ((600 : Int) < (b.size : Int)) = true) := by
      by_cases h : a.size ≤ 600
      · right; simp at hl; simp; omega
      · left; simp; omega
    rcases hd with hd | ⟨hd, hd2⟩
    all_goals
      go_enter Try.func4, Try.ntmps4
      go_wp2_with fail
      refine (works_any _).mono ?_; rintro e w1 ⟨rfl, hb1⟩; have HB1 := Lib.hid hb1; clear hb1
      go_wp2_with fail
      go_ret
      exact ⟨rfl, HB1.out⟩

set_option maxHeartbeats 400000 in
theorem crcEnd_walk (w : World) (a : ByteArray) (ha : a.size ≤ maxLen) (b : ByteArray) (hb : b.size ≤ maxLen) :
    Calls Try.prog 7 #[.string a, .string b] w fun e w' => e = .returned (.bool true) ∧ Below w.heap.size w w' := by
  by_cases hl : a.size ≤ 600 ∧ b.size ≤ 600
  · obtain ⟨hl1, hl2⟩ := hl
    have hd1 : decide ((600 : Int) < (a.size : Int)) = false := by simp; omega
    have hd2 : decide ((600 : Int) < (b.size : Int)) = false := by simp; omega
    have hs1 : (Crc.four (Crc.ofB a)).size ≤ 600 := by rw [Crc.four_size]; omega
    have hs2 : (Crc.four (Crc.ofB b)).size ≤ 600 := by rw [Crc.four_size]; omega
    go_enter Try.func7, Try.ntmps7
    have HB0 := Lib.hid (Below.refl w.heap.size w)
    go_wp2_with fail
    refine (works_any _).mono ?_; rintro e w1 ⟨rfl, hb1⟩; have HB1 := Lib.hid (below_step HB0.out hb1); clear hb1 HB0
    go_wp2_with fail
    refine (Tail_any a ha _).mono ?_; rintro e w2 ⟨rfl, hb2⟩; have HB2 := Lib.hid (below_step HB1.out hb2); clear hb2 HB1
    go_wp2_with fail
    refine (Of_any (a ++ Crc.four (Crc.ofB a)) (by unfold maxLen; simp [ByteArray.size_append]; omega) _).mono ?_; rintro e w3 ⟨rfl, hb3⟩; have HB3 := Lib.hid (below_step HB2.out hb3); clear hb3 HB2; rw [Crc.ofB_end]
    go_wp2_with fail
    refine (Tail_any b hb _).mono ?_; rintro e w4 ⟨rfl, hb4⟩; have HB4 := Lib.hid (below_step HB3.out hb4); clear hb4 HB3
    go_wp2_with fail
    refine (Of_any (b ++ Crc.four (Crc.ofB b)) (by unfold maxLen; simp [ByteArray.size_append]; omega) _).mono ?_; rintro e w5 ⟨rfl, hb5⟩; have HB5 := Lib.hid (below_step HB4.out hb5); clear hb5 HB4; rw [Crc.ofB_end]
    go_wp2_with fail
    go_ret
    exact ⟨by simp, HB5.out⟩
  · have hd : decide ((600 : Int) < (a.size : Int)) = true ∨ (decide ((600 : Int) < (a.size : Int)) = false ∧ decide ((600 : Int) < (b.size : Int)) = true) := by
      by_cases h : a.size ≤ 600
      · right; simp at hl; simp; omega
      · left; simp; omega
    rcases hd with hd | ⟨hd, hd2⟩
    all_goals
      go_enter Try.func7, Try.ntmps7
      go_wp2_with fail
      refine (works_any _).mono ?_; rintro e w1 ⟨rfl, hb1⟩; have HB1 := Lib.hid hb1; clear hb1
      go_wp2_with fail
      go_ret
      exact ⟨rfl, HB1.out⟩

theorem Crc.one_less (v b : Nat) (h : v + 4 = b + 3) (hb : b ≤ 600) : (wrap64 ((v : Int) + 1) == (b : Int)) = true := by
  have e : wrap64 ((v : Int) + 1) = (b : Int) := by rw [IntWalk.wrap64_in _ ⟨by omega, by omega⟩]; omega
  simp [e]
/-- a slice of one byte, as a text -/
theorem one_back (w : World) (b : Nat) (x : UInt8) (hc : w.heap[b]? = some (.cells #[.int .u8 (x.toNat : Int)] 5 (0, 0))) :
    (convert 32 9 (.slice (some ⟨b, 0, none⟩) 1 1)).run Try.prog w = .ok (.string ⟨#[x]⟩) w := by
  have h := run_convert_bytes_arg (P := Try.prog) w 32 5 Try.underlying32 Try.underlying5 b 0 1 1 [(x.toNat : Int)] rfl (fun i hi => by
    rw [Nat.zero_add, cell_of_row w b i _ _ _ hc]
    obtain rfl : i = 0 := by omega
    rfl) 9 Try.underlying9
  rw [h]; simp [strOfNums]

set_option maxHeartbeats 400000 in
theorem crcGood_walk (w : World) (b : ByteArray) (hb : b.size ≤ maxLen) (x : Int) (hx : (Lit.int .u8 x).wf = true) :
    Calls Try.prog 6 #[.string b, .int .u8 x] w fun e w' => e = .returned (.bool true) ∧ Below w.heap.size w w' := by
  obtain ⟨n, rfl⟩ := u8_nat x hx
  by_cases hl : b.size ≤ 600
  · have hs1 : (Crc.four (Crc.ofB b)).size = 4 := Crc.four_size _
    have hg : Crc.good (b ++ Crc.four (Crc.ofB b)) = (b, true) := by rw [Crc.good_append _ _ hs1, if_pos rfl]
    go_enter Try.func6, Try.ntmps6
    have HB0 := Lib.hid (Below.refl w.heap.size w)
    go_wp2_with fail
    refine (works_any _).mono ?_; rintro e w1 ⟨rfl, hb1⟩; have HB1 := Lib.hid (below_step HB0.out hb1); clear hb1 HB0
    go_wp2_with fail
    refine (Tail_any b hb _).mono ?_; rintro e w2 ⟨rfl, hb2⟩; have HB2 := Lib.hid (below_step HB1.out hb2); clear hb2 HB1; have HG := Lib.hid hg; clear hg; generalize Crc.four (Crc.ofB b) = t at *
    go_wp2_with fail
    refine (Good_any (b ++ t) (by unfold maxLen; simp [ByteArray.size_append]; omega) _).mono ?_; rintro e w3 ⟨rfl, hb3⟩; have HB3 := Lib.hid (below_step HB2.out hb3); clear hb3 HB2; rw [HG.out]
    go_wp2_with fail
    rw [one_back _ _ n (heap_alloc_new _ _)]
    go_wp2_with fail
    have hz1 : (b ++ t ++ ⟨#[n]⟩).size = b.size + 5 := by simp [ByteArray.size_append, ByteArray.size_mk']; omega
    have hgs := Crc.good_size (b ++ t ++ ⟨#[n]⟩)
    refine (Good_any _ (by unfold maxLen; omega) _).mono ?_; rintro e w4 ⟨rfl, hb4⟩
    have HB4 := Lib.hid (below_step (HB3.out.alloc HB3.out.size _) hb4); clear hb4 HB3
    have hz2 : (b ++ t.extract 0 3).size ≤ maxLen := by unfold maxLen; simp [ByteArray.size_append, ByteArray.size_extract]; omega
    have HZ2 := Lib.hid hz2; clear hz2
    have hgs2 := Crc.good_size (b ++ t.extract 0 3)
    have hz3 : (b ++ t.extract 0 3).size = b.size + 3 := by simp [ByteArray.size_append, ByteArray.size_extract]; omega
    rw [hz3] at hgs2
    rw [hz1] at hgs
    clear hz3 hz1
    have HGS2 := Lib.hid hgs2; clear hgs2
    generalize Crc.good (b ++ t ++ ⟨#[n]⟩) = r at *
    obtain ⟨u, lg⟩ := r
    cases lg
    all_goals
      have HGS := Lib.hid hgs; clear hgs
      go_wp2_with fail
      refine (Good_any (b ++ t.extract 0 3) HZ2.out _).mono ?_; rintro e w5 ⟨rfl, hb5⟩
      have HB5 := Lib.hid (below_step HB4.out hb5); clear hb5
      generalize Crc.good (b ++ t.extract 0 3) = r2 at *
      obtain ⟨v, sh⟩ := r2
      cases sh
      all_goals
        simp only [true_imp_iff] at HGS HGS2
        go_wp2_with fail
        all_goals first
          | (exfalso; have h1 := HGS.out; have h2 := HGS2.out; omega)
          | (exfalso; have h1 := HGS.out; omega)
          | (exfalso; have h2 := HGS2.out; omega)
          | (go_ret; exact ⟨rfl, HB5.out⟩)
          | (go_ret; exact ⟨congrArg (fun x => Ending.returned (.bool x)) (Crc.one_less _ _ HGS2.out hl), HB5.out⟩)
  · go_enter Try.func6, Try.ntmps6
    have HB0 := Lib.hid (Below.refl w.heap.size w)
    go_wp2_with fail
    refine (works_any _).mono ?_; rintro e w1 ⟨rfl, hb1⟩; have HB1 := Lib.hid (below_step HB0.out hb1); clear hb1 HB0
    go_wp2_with fail
    go_ret
    exact ⟨rfl, HB1.out⟩
end Go.Proofs.Ytjamkglmdhblbaa
