import Derived.Test.YtaillfnmaiiapaaFrN
import Derived.Deep.DeepMust
import Derived.Test.YtaillfnmaiiapaaRoundAny
import Derived.Deep.DeepCutAuto
/-
  What the functions of package frame come to: Put, mayGoOn, Head.
-/
namespace Go.Proofs.Ytaillfnmaiiapaa
open Go.RowKit

set_option maxRecDepth 100000 in
set_option maxHeartbeats 400000 in
theorem TextW_any (s : ByteArray) (hs : s.size ≤ 281474976710656) (w : World) :
    Calls Try.prog 91 #[.string s] w fun e w' => e = .returned (.string (Fr.txt s)) ∧ Below w.heap.size w w' := by
  have hw := Num.wrap_small s.size (by omega)
  have hz : (Num.smallB s.size).size ≤ 10 := Num.enc_length_le 9 _
  have HZ := Lib.hid hz; clear hz
  have HS := Lib.hid hs; clear hs
  go_enter Try.func91, Try.ntmps91
  go_wp2_with fail
  refine (Small_any s.size (Lib.hid (by have := HS.out; omega)) _).mono ?_; rintro e w1 ⟨rfl, hb⟩
  have HB := Lib.hid hb; clear hb
  have hs := HS.out
  have hz := HZ.out
  have hsum : ¬ 9223372036854775807 < (Num.smallB s.size).size + s.size := by omega
  go_wp2_with fail
  go_ret
  exact ⟨rfl, HB.out⟩

set_option maxRecDepth 100000 in
set_option maxHeartbeats 400000 in
theorem Put_any (s : ByteArray) (hs : s.size ≤ 281474976710656) (w : World) :
    Calls Try.prog 83 #[.string s] w fun e w' => e = .returned (.string (Fr.put s)) ∧ Below w.heap.size w w' := by
  have hz : (Fr.txt s).size ≤ 10 + s.size := by rw [Fr.txt_size]; have := Fr.small_le s.size; omega
  have HZ := Lib.hid hz; clear hz
  go_enter Try.func83, Try.ntmps83
  go_wp2_with fail
  refine (TextW_any s hs _).mono ?_; rintro e w1 ⟨rfl, hb⟩
  have HB := Lib.hid hb; clear hb
  have hz := HZ.out
  have htl : (Fr.txt s).size ≤ maxLen := by unfold maxLen; omega
  have HTL := Lib.hid htl; clear htl
  have h4 := Crc.four_size (Crc.ofB (Fr.txt s))
  have hput : Fr.txt s ++ Crc.four (Crc.ofB (Fr.txt s)) = Fr.put s := rfl
  generalize hT : Fr.txt s = t at *
  have HP := Lib.hid hput; clear hput hT
  go_wp2_with fail
  refine (Tail_any t HTL.out _).mono ?_; rintro e w2 ⟨rfl, hb2⟩
  have HB2 := Lib.hid (below_step HB.out hb2); clear hb2
  generalize Crc.four (Crc.ofB t) = c at *
  have hsum : ¬ 9223372036854775807 < t.size + c.size := by omega
  have H4 := Lib.hid h4; clear h4
  go_wp2_with fail
  go_ret
  exact ⟨by rw [HP.out]; rfl, HB2.out⟩

set_option maxRecDepth 100000 in
set_option maxHeartbeats 400000 in
theorem mayGoOn_any (s : ByteArray) (hs : s.size ≤ maxLen) (w : World) :
    Calls Try.prog 92 #[.string s] w fun e w' => e = .returned (.bool (Fr.mayGo s)) ∧ w = w' := by
  unfold maxLen at hs
  have hall : Fr.mayGo s = (s.data.toList.all (fun b => decide (128 ≤ b.toNat)) && decide (s.size < 10)) := rfl
  generalize Fr.mayGo s = g at *
  have HG := Lib.hid hall; clear hall
  go_enter Try.func92, Try.ntmps92
  go_wp2_with fail
  go_loop [6] (fun i => ∃ k : Nat, k ≤ s.size ∧ i = .int .i64 k ∧ (s.data.toList.take k).all (fun b => decide (128 ≤ b.toNat)) = true) (fun i => s.size - (intOf i).toNat)
  case atStart => exact ⟨0, by omega, rfl, rfl⟩
  case round =>
    obtain ⟨k, hk, rfl, ha⟩ := hrel
    have HA := Lib.hid ha; clear ha
    by_cases hlt : k < s.size
    · have hsn := Crc.take_snoc s k hlt
      have HSN := Lib.hid hsn; clear hsn
      have hb := s[k].toNat_lt
      by_cases h128 : s[k].toNat < 128
      · have HC := Lib.hid h128
        go_wp2_with fail
        go_ret
        refine ⟨?_, rfl⟩
        rw [HG.out]
        have hsp : s.data.toList = s.data.toList.take (k + 1) ++ s.data.toList.drop (k + 1) := (List.take_append_drop _ _).symm
        have : s.data.toList.all (fun b => decide (128 ≤ b.toNat)) = false := by
          rw [hsp, HSN.out]
          have := HC.out
          simp only [List.all_append, List.all_cons, List.all_nil]
          rw [show decide (128 ≤ s[k].toNat) = false from by simp; omega]
          simp
        rw [this]; rfl
      · have HC := Lib.hid h128
        go_wp2_with fail
        go_round
        case rel =>
          refine ⟨k + 1, by omega, by go_num, ?_⟩
          rw [HSN.out]
          have := HC.out
          simp only [List.all_append, List.all_cons, List.all_nil, HA.out]
          rw [show decide (128 ≤ s[k].toNat) = true from by simp; omega]
          rfl
        case measure => simp [intOf]; omega
    · have hE : s.data.toList.all (fun b => decide (128 ≤ b.toNat)) = true := by
        have := HA.out
        rwa [List.take_of_length_le (by simp; omega)] at this
      have HE := Lib.hid hE; clear hE
      go_wp2_with fail
      go_ret
      refine ⟨?_, rfl⟩
      rw [HG.out, HE.out]
      simp; omega
end Go.Proofs.Ytaillfnmaiiapaa
/-
  What the functions of package frame come to: Get.
-/
namespace Go.Proofs.Ytaillfnmaiiapaa
open Go.RowKit

theorem curTakeK (b : Nat) (s : ByteArray) (hs : s.size ≤ maxLen) (k : Nat) (hk : k ≤ s.size) (w : World) (hc : CurAt b s false w) :
    Calls Try.prog 68 #[.pointer (some ⟨b, 0, none⟩), .int .i64 k] w fun e w' => e = .returned (.string (s.extract 0 k)) ∧ CurAt b (s.extract k s.size) false w' ∧ w.grownBy w' (some b) := by
  have h := curTake b s hs false (k : Int) w hc
  have ht : Num.tOk (k : Int) s = true := by unfold Num.tOk; simp; omega
  simp only [ht, if_true, Int.toNat_natCast, Num.curV] at h
  simpa using h
theorem curSmallK (b : Nat) (s : ByteArray) (hs : s.size ≤ maxLen) (v n : Nat) (hd : Fr.num s = (v, n, true)) (w : World) (hc : CurAt b s false w) :
    Calls Try.prog 87 #[.pointer (some ⟨b, 0, none⟩)] w fun e w' => e = .returned (.int .u64 v) ∧ CurAt b (s.extract n s.size) false w' ∧ w.grownBy w' (some b) := by
  have h := curSmall b s hs false w hc
  unfold Fr.num at hd
  simp only [hd, Num.curV] at h
  simpa using h
theorem curSmallN (b : Nat) (s : ByteArray) (hs : s.size ≤ maxLen) (hd : (Fr.num s).2.2 = false) (w : World) (hc : CurAt b s false w) :
    Calls Try.prog 87 #[.pointer (some ⟨b, 0, none⟩)] w fun e w' => e = .returned (.int .u64 0) ∧ CurAt b s true w' ∧ w.grownBy w' (some b) := by
  have h := curSmall b s hs false w hc
  unfold Fr.num at hd
  simp only [hd, Num.curV] at h
  simpa using h

set_option maxRecDepth 100000 in
set_option maxHeartbeats 1000000 in
theorem Get_no (s : ByteArray) (hs : s.size ≤ maxLen) (most : Int) (hm : Hid (-9223372036854775808 ≤ most ∧ most ≤ 9223372036854775807)) (w : World)
    (h : Fr.mayGo s = true ∨ (Fr.num s).2.2 = false ∨ most < 0 ∨ most < ((Fr.num s).1 : Int) ∨ s.size < (Fr.num s).2.1 + (Fr.num s).1 + 4) :
    Calls Try.prog 84 #[.string s, .int .i64 most] w fun e w' => e = .returned (.tuple #[.string (Fr.get s most).1, .string (Fr.get s most).2.1, .int .i64 ((Fr.get s most).2.2 : Nat)]) ∧ Below w.heap.size w w' := by
  have HS := Lib.hid hs; clear hs
  by_cases hg : Fr.mayGo s = true
  · have hget : Fr.get s most = (ByteArray.empty, s, 1) := by unfold Fr.get; rw [if_pos hg]
    rw [hget]
    have HM := Lib.hid (mayGoOn_any s HS.out); have HGo := Lib.hid hg
    clear hget h hg
    go_enter Try.func84, Try.ntmps84
    go_wp2_with fail
    refine (HM.out _).mono ?_; rintro e w1 ⟨rfl, rfl⟩
    rw [HGo.out]
    go_wp2_with fail
    go_ret3
    exact ⟨rfl, Below.refl _ _⟩
  · have hg0 : Fr.mayGo s = false := by cases h : Fr.mayGo s <;> simp_all
    have hc0 : CurAt w.heap.size s false (w.alloc (.cells #[.string s, .bool false] 131)) := heap_alloc_new _ _
    have hgr := World.grownBy_alloc w (.cells #[.string s, .bool false] 131) (some w.heap.size)
    have HM := Lib.hid (mayGoOn_any s HS.out); have HGo := Lib.hid hg0
    have HC0 := Lib.hid hc0; have HGR := Lib.hid hgr
    clear hc0 hgr
    cases hok : (Fr.num s).2.2 with
    | false =>
      have hget : Fr.get s most = (ByteArray.empty, s, 2) := by unfold Fr.get; rw [if_neg hg, if_pos (.inl hok)]
      rw [hget]
      have HOK := Lib.hid hok
      clear hget h hg hg0 hok
      go_enter Try.func84, Try.ntmps84
      go_wp2_with fail
      refine (HM.out _).mono ?_; rintro e w1 ⟨rfl, rfl⟩
      rw [HGo.out]
      go_wp2_with fail
      refine (curSmallN w.heap.size s HS.out HOK.out _ HC0.out).mono ?_; rintro e w2 ⟨rfl, h1, h2⟩
      have HB2 := Lib.hid (below_of_grown (Below.refl w.heap.size w) (grown_trans HGR.out h2) (Nat.le_refl _) (Nat.le_refl _))
      have HC2 := Lib.hid h1
      obtain ⟨c0, c1, f0, f1⟩ := h1.cells
      clear h1 h2
      go_wp2_with fail
      go_ret3
      exact ⟨rfl, HB2.out⟩
    | true =>
      obtain ⟨v, hv⟩ : ∃ v, (Fr.num s).1 = v := ⟨_, rfl⟩
      obtain ⟨n, hn⟩ : ∃ n, (Fr.num s).2.1 = n := ⟨_, rfl⟩
      have hd : Fr.num s = (v, n, true) := by rw [← hv, ← hn, ← hok]
      have hns : n ≤ s.size := by rw [← hn]; exact Fr.num_le_size s
      have hvl : Hid (v < 18446744073709551616) := by have := Fr.num_lt s; rw [hv] at this; exact Lib.hid this
      rw [hv, hn, hok, hg0] at h
      have HD := Lib.hid hd
      have hm0 := hm.out
      by_cases hwrong : most < 0 ∨ most < (v : Int)
      · have hget : Fr.get s most = (ByteArray.empty, s, 2) := by unfold Fr.get; rw [if_neg hg, if_pos (.inr (by rw [hv]; exact hwrong))]
        rw [hget]
        clear hget h hg hg0 hok hd hv hn hm0
        go_enter Try.func84, Try.ntmps84
        go_wp2_with fail
        refine (HM.out _).mono ?_; rintro e w1 ⟨rfl, rfl⟩
        rw [HGo.out]
        go_wp2_with fail
        refine (curSmallK w.heap.size s HS.out v n HD.out _ HC0.out).mono ?_; rintro e w2 ⟨rfl, h1, h2⟩
        have HB2 := Lib.hid (below_of_grown (Below.refl w.heap.size w) (grown_trans HGR.out h2) (Nat.le_refl _) (Nat.le_refl _))
        have HC2 := Lib.hid h1
        obtain ⟨c0, c1, f0, f1⟩ := h1.cells
        clear h1 h2
        by_cases hneg : most < 0
        · have d1 : decide (most < 0) = true := by simpa using hneg
          clear hwrong hneg
          go_wp2_with fail
          go_ret3
          exact ⟨rfl, HB2.out⟩
        · have d1 : decide (most < 0) = false := by simpa using hneg
          have hwr : IntKind.u64.wrap most = most := by rw [IntKind.wrap_u64]; have := hm.out; omega
          have d2 : decide (most < (v : Int)) = true := by simp; omega
          clear hwrong hneg
          go_wp2_with fail
          go_ret3
          exact ⟨rfl, HB2.out⟩
      · have hshort : s.size < n + v + 4 := by
          rcases h with h | h | h | h | h
          · cases h
          · cases h
          · exact absurd (.inl h) hwrong
          · exact absurd (.inr h) hwrong
          · exact h
        have hget : Fr.get s most = (ByteArray.empty, s, 1) := by unfold Fr.get; rw [if_neg hg, if_neg (by rw [hv, hok]; rintro (h | h); cases h; exact hwrong h), if_pos (by rw [hv, hn]; exact hshort)]
        rw [hget]
        have d1 : decide (most < 0) = false := by simp; omega
        have hwr : IntKind.u64.wrap most = most := by rw [IntKind.wrap_u64]; omega
        have d2 : decide (most < (v : Int)) = false := by simp; omega
        have hwv : IntKind.u64.wrap ((v : Int) + 4) = (v : Int) + 4 := by rw [IntKind.wrap_u64]; omega
        have hsz := HS.out
        unfold maxLen at hsz
        have hez : (s.extract n s.size).size = s.size - n := by rw [ByteArray.size_extract]; omega
        have hwl : IntKind.u64.wrap (((s.extract n s.size).size : Nat) : Int) = ((s.extract n s.size).size : Nat) := by rw [IntKind.wrap_u64]; omega
        have d3 : decide ((((s.extract n s.size).size : Nat) : Int) < (v : Int) + 4) = true := by simp; omega
        clear hget h hg hg0 hok hd hv hn hm0 hwrong hshort hsz hez
        go_enter Try.func84, Try.ntmps84
        go_wp2_with fail
        refine (HM.out _).mono ?_; rintro e w1 ⟨rfl, rfl⟩
        rw [HGo.out]
        go_wp2_with fail
        refine (curSmallK w.heap.size s HS.out v n HD.out _ HC0.out).mono ?_; rintro e w2 ⟨rfl, h1, h2⟩
        have HB2 := Lib.hid (below_of_grown (Below.refl w.heap.size w) (grown_trans HGR.out h2) (Nat.le_refl _) (Nat.le_refl _))
        have HC2 := Lib.hid h1
        obtain ⟨c0, c1, f0, f1⟩ := h1.cells
        clear h1 h2
        generalize s.extract n s.size = s2 at *
        go_wp2_with fail
        go_ret3
        exact ⟨rfl, HB2.out⟩
end Go.Proofs.Ytaillfnmaiiapaa
/-
  What the functions of package frame come to: Get, where there are enough bytes.
-/
namespace Go.Proofs.Ytaillfnmaiiapaa
open Go.RowKit

set_option maxRecDepth 100000 in
set_option maxHeartbeats 1000000 in
theorem Get_yes (s : ByteArray) (hs : s.size ≤ maxLen) (most : Int) (hm : Hid (-9223372036854775808 ≤ most ∧ most ≤ 9223372036854775807)) (w : World) (v n : Nat) (hd : Fr.num s = (v, n, true)) (hvm : (v : Int) ≤ most) (hl : n + v + 4 ≤ s.size) :
    Calls Try.prog 84 #[.string s, .int .i64 most] w fun e w' => e = .returned (.tuple #[.string (Fr.get s most).1, .string (Fr.get s most).2.1, .int .i64 ((Fr.get s most).2.2 : Nat)]) ∧ Below w.heap.size w w' := by
  have HS := Lib.hid hs
  have hg0 : Fr.mayGo s = false := Fr.num_ok_stop s (by rw [hd])
  have hget : Fr.get s most = if s.extract (n + v) (n + v + 4) = Crc.four (Crc.ofB (s.extract 0 (n + v))) then (s.extract n (n + v), s.extract (n + v + 4) s.size, 0) else (ByteArray.empty, s, 2) := by
    unfold Fr.get
    rw [hg0, hd]
    simp only [Bool.false_eq_true, if_false]
    rw [if_neg (by rintro (h | h | h) <;> first | cases h | omega), if_neg (by omega)]
  have hm0 := hm.out
  have hsz := hs
  unfold maxLen at hsz
  have hc0 : CurAt w.heap.size s false (w.alloc (.cells #[.string s, .bool false] 131)) := heap_alloc_new _ _
  have hgr := World.grownBy_alloc w (.cells #[.string s, .bool false] 131) (some w.heap.size)
  have HM := Lib.hid (mayGoOn_any s HS.out); have HGo := Lib.hid hg0
  have HC0 := Lib.hid hc0; have HGR := Lib.hid hgr
  have HD := Lib.hid hd; have HGET := Lib.hid hget
  have d1 : decide (most < 0) = false := by simp; omega
  have hwr : IntKind.u64.wrap most = most := by rw [IntKind.wrap_u64]; omega
  have d2 : decide (most < (v : Int)) = false := by simp; omega
  have hwv : IntKind.u64.wrap ((v : Int) + 4) = (v : Int) + 4 := by rw [IntKind.wrap_u64]; omega
  have hwi : wrap64 (v : Int) = (v : Int) := by rw [IntWalk.wrap64_in _ ⟨by omega, by omega⟩]
  have hwi2 : IntKind.i64.wrap (v : Int) = (v : Int) := IntWalk.i64_in _ (by omega)
  have hez : (s.extract n s.size).size = s.size - n := by rw [ByteArray.size_extract]; omega
  have hwl : IntKind.u64.wrap (((s.extract n s.size).size : Nat) : Int) = ((s.extract n s.size).size : Nat) := by rw [IntKind.wrap_u64]; omega
  have d3 : decide ((((s.extract n s.size).size : Nat) : Int) < (v : Int) + 4) = false := by simp; omega
  have x1 : (s.extract n s.size).extract 0 v = s.extract n (n + v) := Fr.ext_ext s n s.size v (by omega)
  have x2 : (s.extract n s.size).extract v (s.extract n s.size).size = s.extract (n + v) s.size := Fr.ext_drop s n v
  have hez2 : (s.extract (n + v) s.size).size = s.size - (n + v) := by rw [ByteArray.size_extract]; omega
  have x3 : (s.extract (n + v) s.size).extract 0 4 = s.extract (n + v) (n + v + 4) := Fr.ext_ext s (n + v) s.size 4 (by omega)
  have x4 : (s.extract (n + v) s.size).extract 4 (s.extract (n + v) s.size).size = s.extract (n + v + 4) s.size := Fr.ext_drop s (n + v) 4
  have x5 : (s.size : Int) - (((s.extract (n + v) s.size).size : Nat) : Int) = ((n + v : Nat) : Int) := by omega
  have x6 : IntKind.i64.wrap ((n + v : Nat) : Int) = ((n + v : Nat) : Int) := IntWalk.i64_in _ (by omega)
  have hsm := fun W hc => curSmallK w.heap.size s HS.out v n HD.out W hc
  have htk1 := curTakeK w.heap.size (s.extract n s.size) (by unfold maxLen; omega) v (by omega)
  rw [x1, x2] at htk1
  have htk2 := curTakeK w.heap.size (s.extract (n + v) s.size) (by unfold maxLen; omega) 4 (by omega)
  rw [x3, x4] at htk2
  have htail := Tail_any (s.extract 0 (n + v)) (by rw [ByteArray.size_extract]; unfold maxLen; omega)
  have hbe := str_beq (s.extract (n + v) (n + v + 4)) (Crc.four (Crc.ofB (s.extract 0 (n + v))))
  have hle1 : ((n + v : Nat) : Int) ≤ s.size := by omega
  have hle0 : (0 : Int) ≤ ((n + v : Nat) : Int) := by omega
  have HSM := Lib.hid hsm; have HTK1 := Lib.hid htk1; have HTK2 := Lib.hid htk2; have HTAIL := Lib.hid htail; have HBE := Lib.hid hbe
  clear hsm hget hg0 hd hm0 hsz hs hc0 hgr hez hez2 x1 x2 x3 x4 htk1 htk2 htail hbe hl
  generalize hE1 : s.extract n s.size = s1 at *
  generalize hE2 : s.extract (n + v) s.size = s2 at *
  generalize hE3 : s.extract (n + v) (n + v + 4) = chk at *
  generalize hE4 : s.extract (n + v + 4) s.size = s3 at *
  generalize hE5 : s.extract n (n + v) = b at *
  generalize hE6 : Crc.four (Crc.ofB (s.extract 0 (n + v))) = tl at *
  generalize hE7 : s.extract 0 (n + v) = used at *
  clear hE1 hE2 hE3 hE4 hE5 hE6
  generalize hE8 : n + v = nv at *
  clear hE8
  go_enter Try.func84, Try.ntmps84
  go_wp2_with fail
  refine (HM.out _).mono ?_; rintro e w1 ⟨rfl, rfl⟩
  rw [HGo.out]
  go_wp2_with fail
  refine (HSM.out _ HC0.out).mono ?_; rintro e w2 ⟨rfl, h1, h2⟩
  have HB2 := Lib.hid (grown_trans HGR.out h2)
  have HC2 := Lib.hid h1
  obtain ⟨c0, c1, f0, f1⟩ := h1.cells
  clear h1 h2 f0 f1 HGR HC0
  have HE7 := Lib.hid hE7; clear hE7
  go_wp2_with fail
  refine (HTK1.out _ HC2.out).mono ?_; rintro e w3 ⟨rfl, h1, h2⟩
  have HB3 := Lib.hid (grown_trans HB2.out h2)
  have HC3 := Lib.hid h1
  clear c0 c1
  obtain ⟨c0, c1, f0, f1⟩ := h1.cells
  clear h1 h2 f0 f1 HB2 HC2
  go_upto_region 11 with fail
  clear d1 d2 d3 hwr hwv hwi hwi2 hwl x5 x6
  go_cut [52] (fun s52 wx => s52 = .bool (!(chk.toList == tl.toList)) ∧ CurAt w.heap.size s3 false wx ∧ w.grownBy wx (some w.heap.size))
  case first =>
    have hE7 := HE7.out
    clear c0 c1
    refine plain_held (fun _ => True) (by kernel_rfl) ?_
    have hcd : CurAt w.heap.size s2 false w3.drew := HC3.out
    have hgd := grown_drew HB3.out
    generalize w3.drew = wd at *
    have HCD := Lib.hid hcd; have HGD := Lib.hid hgd
    clear hcd hgd HC3 HB3
    refine wpAnyH_pickQ (by kernel_rfl) Only.panic Only.keepsIn (w := wd) trivial [1, 2, 3] 3 _ _ (by kernel_rfl) ?_
    refine PickQ.value (d := some 48) (.string s) rfl rfl (by kernel_rfl) (fun U hU => (by go_simp)) ?_
    refine PickQ.value (d := some 49) (.int .i64 nv) rfl rfl (by kernel_rfl) (fun U hU => (by go_simp)) ?_
    refine PickQ.value (d := some 50) (.string used) rfl rfl (by kernel_rfl) (fun U hU => (by go_simp)) ?_
    simp only [PickQ, Act.put, List.setIfInBounds_toArray]
    clear hE7
    refine wpAnyH_one (i := 0) (by kernel_rfl) rfl (by kernel_rfl) ?_
    intro K hK
    unfold Oper.wp
    go_simp
    refine (HTK2.out _ HCD.out).mono ?_; rintro e w4 ⟨rfl, h1, h2⟩
    refine hK _ _ trivial (fun _ => ?_)
    clear hK K
    have HC4 := Lib.hid h1; have HG4 := Lib.hid (grown_trans HGD.out h2); clear h1 h2
    refine wpAnyH_one (i := 4) (by kernel_rfl) rfl (by kernel_rfl) ?_
    intro K hK
    unfold Oper.wp
    go_simp
    refine (HTAIL.out _).mono ?_; rintro e w5 ⟨rfl, hb5⟩
    refine hK _ _ trivial (fun _ => ?_)
    clear hK K
    have HC5 := Lib.hid (heap_keep HC4.out hb5 : CurAt _ _ _ _); have HG5 := Lib.hid (grown_trans HG4.out (grown_of_below hb5)); clear hb5
    refine wpAnyH_one (i := 5) (by kernel_rfl) rfl (by kernel_rfl) ?_
    intro K hK
    unfold Oper.wp
    go_simp
    refine hK _ _ trivial (fun _ => ?_)
    clear hK K
    refine wpAnyH_done (by kernel_rfl) ?_ _
    refine Only.next ?_
    go_wp2_with fail
    go_meet
    exact ⟨rfl, HC5.out, HG5.out⟩
  case rest =>
    obtain ⟨rfl, hc9, hg9⟩ := hcut
    have HB9 := Lib.hid (below_of_grown (Below.refl w.heap.size w) hg9 (Nat.le_refl _) (Nat.le_refl _))
    clear c0 c1 hg9 HC3 HB3
    obtain ⟨c0, c1, f0, f1⟩ := hc9.cells
    clear hc9 f0 f1
    by_cases hck : chk = tl
    · have hb : (!(chk.toList == tl.toList)) = false := by rw [HBE.out]; simpa using hck
      rw [hb]
      have HCK := Lib.hid hck; clear hck hb
      go_wp2_with fail
      go_quiet (fail)
      go_wp2_with fail
      go_ret3
      rw [HGET.out, if_pos HCK.out]
      exact ⟨rfl, below_drewN HB9.out _⟩
    · have hb : (!(chk.toList == tl.toList)) = true := by rw [HBE.out]; simpa using hck
      rw [hb]
      have HCK := Lib.hid hck; clear hck hb
      go_wp2_with fail
      go_ret3
      rw [HGET.out, if_neg HCK.out]
      exact ⟨rfl, HB9.out⟩
end Go.Proofs.Ytaillfnmaiiapaa
