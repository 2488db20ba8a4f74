import Derived.Test.YtfibapfehgglhaaGreatDoorRoundAny
import Derived.Deep.DeepCutAuto
import Derived.Test.YtfibapfehgglhaaGreatDoorFrM
/-
  What the functions of package frame come to: Get.
-/
namespace Go.Proofs.YtfibapfehgglhaaGreatDoor
open Go.RowKit

theorem curTakeK (b : Nat) (s : ByteArray) (hs : s.size ≤ maxLen) (k : Nat) (hk : k ≤ s.size) (w : World) (hc : CurAt b s false w) :
    Calls Tryz.prog 113 #[.pointer (some ⟨b, 0, none⟩), .int .i64 k] w fun e w' => e = .returned (.string (s.extract 0 k)) ∧ CurAt b (s.extract k s.size) false w' ∧ w.grownBy w' (some b) := by
  have h := curTake b s hs false (k : Int) w hc
  have ht : Num.tOk (k : Int) s = true := by unfold Num.tOk; simp; omega
  simp only [ht, if_true, Int.toNat_natCast, Num.curV] at h
  simpa using h
theorem curSmallK (b : Nat) (s : ByteArray) (hs : s.size ≤ maxLen) (v n : Nat) (hd : Fr.num s = (v, n, true)) (w : World) (hc : CurAt b s false w) :
    Calls Tryz.prog 112 #[.pointer (some ⟨b, 0, none⟩)] w fun e w' => e = .returned (.int .u64 v) ∧ CurAt b (s.extract n s.size) false w' ∧ w.grownBy w' (some b) := by
  have h := curSmall b s hs false w hc
  unfold Fr.num at hd
  simp only [hd, Num.curV] at h
  simpa using h
theorem curSmallN (b : Nat) (s : ByteArray) (hs : s.size ≤ maxLen) (hd : (Fr.num s).2.2 = false) (w : World) (hc : CurAt b s false w) :
    Calls Tryz.prog 112 #[.pointer (some ⟨b, 0, none⟩)] w fun e w' => e = .returned (.int .u64 0) ∧ CurAt b s true w' ∧ w.grownBy w' (some b) := by
  have h := curSmall b s hs false w hc
  unfold Fr.num at hd
  simp only [hd, Num.curV] at h
  simpa using h

set_option maxRecDepth 100000 in
set_option maxHeartbeats 1000000 in
theorem Get_no (s : ByteArray) (hs : s.size ≤ maxLen) (most : Int) (hm : Hid (-9223372036854775808 ≤ most ∧ most ≤ 9223372036854775807)) (w : World)
    (h : Fr.mayGo s = true ∨ (Fr.num s).2.2 = false ∨ most < 0 ∨ most < ((Fr.num s).1 : Int) ∨ s.size < (Fr.num s).2.1 + (Fr.num s).1 + 4) :
    Calls Tryz.prog 67 #[.string s, .int .i64 most] w fun e w' => e = .returned (.tuple #[.string (Fr.get s most).1, .string (Fr.get s most).2.1, .int .i64 ((Fr.get s most).2.2 : Nat)]) ∧ Below w.heap.size w w' := by
  have HS := Lib.hid hs; clear hs
  by_cases hg : Fr.mayGo s = true
  · have hget : Fr.get s most = (ByteArray.empty, s, 1) := by unfold Fr.get; rw [if_pos hg]
    rw [hget]
    have HM := Lib.hid (mayGoOn_any s HS.out); have HGo := Lib.hid hg
    clear hget h hg
    go_enter Tryz.func67, Tryz.ntmps67
    go_wp2_with fail
    refine (HM.out _).mono ?_; rintro e w1 ⟨rfl, rfl⟩
    rw [HGo.out]
    go_wp2_with fail
    go_ret3
    exact ⟨rfl, Below.refl _ _⟩
  · have hg0 : Fr.mayGo s = false := by cases h : Fr.mayGo s <;> simp_all
    have hc0 : CurAt w.heap.size s false (w.alloc (.cells #[.string s, .bool false] 190)) := heap_alloc_new _ _
    have hgr := World.grownBy_alloc w (.cells #[.string s, .bool false] 190) (some w.heap.size)
    have HM := Lib.hid (mayGoOn_any s HS.out); have HGo := Lib.hid hg0
    have HC0 := Lib.hid hc0; have HGR := Lib.hid hgr
    clear hc0 hgr
    cases hok : (Fr.num s).2.2 with
    | false =>
      have hget : Fr.get s most = (ByteArray.empty, s, 2) := by unfold Fr.get; rw [if_neg hg, if_pos (.inl hok)]
      rw [hget]
      have HOK := Lib.hid hok
      clear hget h hg hg0 hok
      go_enter Tryz.func67, Tryz.ntmps67
      go_wp2_with fail
      refine (HM.out _).mono ?_; rintro e w1 ⟨rfl, rfl⟩
      rw [HGo.out]
      go_wp2_with fail
      refine (curSmallN w.heap.size s HS.out HOK.out _ HC0.out).mono ?_; rintro e w2 ⟨rfl, h1, h2⟩
      have HB2 := Lib.hid (below_of_grown (Below.refl w.heap.size w) (grown_trans HGR.out h2) (Nat.le_refl _) (Nat.le_refl _))
      have HC2 := Lib.hid h1
      obtain ⟨c0, c1, f0, f1⟩ := h1.cells
      clear h1 h2
      go_wp2_with fail
      go_ret3
      exact ⟨rfl, HB2.out⟩
    | true =>
      obtain ⟨v, hv⟩ : ∃ v, (Fr.num s).1 = v := ⟨_, rfl⟩
      obtain ⟨n, hn⟩ : ∃ n, (Fr.num s).2.1 = n := ⟨_, rfl⟩
      have hd : Fr.num s = (v, n, true) := by rw [← hv, ← hn, ← hok]
      have hns : n ≤ s.size := by rw [← hn]; exact Fr.num_le_size s
      have hvl : Hid (v < 18446744073709551616) := by have := Fr.num_lt s; rw [hv] at this; exact Lib.hid this
      rw [hv, hn, hok, hg0] at h
      have HD := Lib.hid hd
      have hm0 := hm.out
      by_cases hwrong : most < 0 ∨ most < (v : Int)
      · have hget : Fr.get s most = (ByteArray.empty, s, 2) := by unfold Fr.get; rw [if_neg hg, if_pos (.inr (by rw [hv]; exact hwrong))]
        rw [hget]
        clear hget h hg hg0 hok hd hv hn hm0
        go_enter Tryz.func67, Tryz.ntmps67
        go_wp2_with fail
        refine (HM.out _).mono ?_; rintro e w1 ⟨rfl, rfl⟩
        rw [HGo.out]
        go_wp2_with fail
        refine (curSmallK w.heap.size s HS.out v n HD.out _ HC0.out).mono ?_; rintro e w2 ⟨rfl, h1, h2⟩
        have HB2 := Lib.hid (below_of_grown (Below.refl w.heap.size w) (grown_trans HGR.out h2) (Nat.le_refl _) (Nat.le_refl _))
        have HC2 := Lib.hid h1
        obtain ⟨c0, c1, f0, f1⟩ := h1.cells
        clear h1 h2
        by_cases hneg : most < 0
        · have d1 : decide (most < 0) = true := by simpa using hneg
          clear hwrong hneg
          go_wp2_with fail
          go_ret3
          exact ⟨rfl, HB2.out⟩
        · have d1 : decide (most < 0) = false := by simpa using hneg
          have hwr : IntKind.u64.wrap most = most := by rw [IntKind.wrap_u64]; have := hm.out; omega
          have d2 : decide (most < (v : Int)) = true := by simp; omega
          clear hwrong hneg
          go_wp2_with fail
          go_ret3
          exact ⟨rfl, HB2.out⟩
      · have hshort : s.size < n + v + 4 := by
          rcases h with h | h | h | h | h
          · cases h
          · cases h
          · exact absurd (.inl h) hwrong
          · exact absurd (.inr h) hwrong
          · exact h
        have hget : Fr.get s most = (ByteArray.empty, s, 1) := by unfold Fr.get; rw [if_neg hg, if_neg (by rw [hv, hok]; rintro (h | h); cases h; exact hwrong h), if_pos (by rw [hv, hn]; exact hshort)]
        rw [hget]
        have d1 : decide (most < 0) = false := by simp; omega
        have hwr : IntKind.u64.wrap most = most := by rw [IntKind.wrap_u64]; omega
        have d2 : decide (most < (v : Int)) = false := by simp; omega
        have hwv : IntKind.u64.wrap ((v : Int) + 4) = (v : Int) + 4 := by rw [IntKind.wrap_u64]; omega
        have hsz := HS.out
        unfold maxLen at hsz
        have hez : (s.extract n s.size).size = s.size - n := by rw [ByteArray.size_extract]; omega
        have hwl : IntKind.u64.wrap (((s.extract n s.size).size : Nat) : Int) = ((s.extract n s.size).size : Nat) := by rw [IntKind.wrap_u64]; omega
        have d3 : decide ((((s.extract n s.size).size : Nat) : Int) < (v : Int) + 4) = true := by simp; omega
        clear hget h hg hg0 hok hd hv hn hm0 hwrong hshort hsz hez
        go_enter Tryz.func67, Tryz.ntmps67
        go_wp2_with fail
        refine (HM.out _).mono ?_; rintro e w1 ⟨rfl, rfl⟩
        rw [HGo.out]
        go_wp2_with fail
        refine (curSmallK w.heap.size s HS.out v n HD.out _ HC0.out).mono ?_; rintro e w2 ⟨rfl, h1, h2⟩
        have HB2 := Lib.hid (below_of_grown (Below.refl w.heap.size w) (grown_trans HGR.out h2) (Nat.le_refl _) (Nat.le_refl _))
        have HC2 := Lib.hid h1
        obtain ⟨c0, c1, f0, f1⟩ := h1.cells
        clear h1 h2
        generalize s.extract n s.size = s2 at *
        go_wp2_with fail
        go_ret3
        exact ⟨rfl, HB2.out⟩
end Go.Proofs.YtfibapfehgglhaaGreatDoor
/-
  What the functions of package frame come to: Get, where there are enough bytes.
-/
namespace Go.Proofs.YtfibapfehgglhaaGreatDoor
open Go.RowKit

set_option maxRecDepth 100000 in
set_option maxHeartbeats 1000000 in
theorem Get_yes (s : ByteArray) (hs : s.size ≤ maxLen) (most : Int) (hm : Hid (-9223372036854775808 ≤ most ∧ most ≤ 9223372036854775807)) (w : World) (v n : Nat) (hd : Fr.num s = (v, n, true)) (hvm : (v : Int) ≤ most) (hl : n + v + 4 ≤ s.size) :
    Calls Tryz.prog 67 #[.string s, .int .i64 most] w fun e w' => e = .returned (.tuple #[.string (Fr.get s most).1, .string (Fr.get s most).2.1, .int .i64 ((Fr.get s most).2.2 : Nat)]) ∧ Below w.heap.size w w' := by
  have HS := Lib.hid hs
  have hg0 : Fr.mayGo s = false := Fr.num_ok_stop s (by rw [hd])
  have hget : Fr.get s most = if s.extract (n + v) (n + v + 4) = Crc.four (Crc.ofB (s.extract 0 (n + v))) then (s.extract n (n + v), s.extract (n + v + 4) s.size, 0) else (ByteArray.empty, s, 2) := by
    unfold Fr.get
    rw [hg0, hd]
    simp only [Bool.false_eq_true, if_false]
    rw [if_neg (by rintro (h | h | h) <;> first | cases h | omega), if_neg (by omega)]
  have hm0 := hm.out
  have hsz := hs
  unfold maxLen at hsz
  have hc0 : CurAt w.heap.size s false (w.alloc (.cells #[.string s, .bool false] 190)) := heap_alloc_new _ _
  have hgr := World.grownBy_alloc w (.cells #[.string s, .bool false] 190) (some w.heap.size)
  have HM := Lib.hid (mayGoOn_any s HS.out); have HGo := Lib.hid hg0
  have HC0 := Lib.hid hc0; have HGR := Lib.hid hgr
  have HD := Lib.hid hd; have HGET := Lib.hid hget
  have d1 : decide (most < 0) = false := by simp; omega
  have hwr : IntKind.u64.wrap most = most := by rw [IntKind.wrap_u64]; omega
  have d2 : decide (most < (v : Int)) = false := by simp; omega
  have hwv : IntKind.u64.wrap ((v : Int) + 4) = (v : Int) + 4 := by rw [IntKind.wrap_u64]; omega
  have hwi : wrap64 (v : Int) = (v : Int) := by rw [IntWalk.wrap64_in _ ⟨by omega, by omega⟩]
  have hwi2 : IntKind.i64.wrap (v : Int) = (v : Int) := IntWalk.i64_in _ (by omega)
  have hez : (s.extract n s.size).size = s.size - n := by rw [ByteArray.size_extract]; omega
  have hwl : IntKind.u64.wrap (((s.extract n s.size).size : Nat) : Int) = ((s.extract n s.size).size : Nat) := by rw [IntKind.wrap_u64]; omega
  have d3 : decide ((((s.extract n s.size).size : Nat) : Int) < (v : Int) + 4) = false := by simp; omega
  have x1 : (s.extract n s.size).extract 0 v = s.extract n (n + v) := Fr.ext_ext s n s.size v (by omega)
  have x2 : (s.extract n s.size).extract v (s.extract n s.size).size = s.extract (n + v) s.size := Fr.ext_drop s n v
  have hez2 : (s.extract (n + v) s.size).size = s.size - (n + v) := by rw [ByteArray.size_extract]; omega
  have x3 : (s.extract (n + v) s.size).extract 0 4 = s.extract (n + v) (n + v + 4) := Fr.ext_ext s (n + v) s.size 4 (by omega)
  have x4 : (s.extract (n + v) s.size).extract 4 (s.extract (n + v) s.size).size = s.extract (n + v + 4) s.size := Fr.ext_drop s (n + v) 4
  have x5 : (s.size : Int) - (((s.extract (n + v) s.size).size : Nat) : Int) = ((n + v : Nat) : Int) := by omega
  have x6 : IntKind.i64.wrap ((n + v : Nat) : Int) = ((n + v : Nat) : Int) := IntWalk.i64_in _ (by omega)
  have hsm := fun W hc => curSmallK w.heap.size s HS.out v n HD.out W hc
  have htk1 := curTakeK w.heap.size (s.extract n s.size) (by unfold maxLen; omega) v (by omega)
  rw [x1, x2] at htk1
  have htk2 := curTakeK w.heap.size (s.extract (n + v) s.size) (by unfold maxLen; omega) 4 (by omega)
  rw [x3, x4] at htk2
  have htail := Tail_any (s.extract 0 (n + v)) (by rw [ByteArray.size_extract]; unfold maxLen; omega)
  have hbe := str_beq (s.extract (n + v) (n + v + 4)) (Crc.four (Crc.ofB (s.extract 0 (n + v))))
  have hle1 : ((n + v : Nat) : Int) ≤ s.size := by omega
  have hle0 : (0 : Int) ≤ ((n + v : Nat) : Int) := by omega
  have HSM := Lib.hid hsm; have HTK1 := Lib.hid htk1; have HTK2 := Lib.hid htk2; have HTAIL := Lib.hid htail; have HBE := Lib.hid hbe
  clear hsm hget hg0 hd hm0 hsz hs hc0 hgr hez hez2 x1 x2 x3 x4 htk1 htk2 htail hbe hl
  generalize hE1 : s.extract n s.size = s1 at *
  generalize hE2 : s.extract (n + v) s.size = s2 at *
  generalize hE3 : s.extract (n + v) (n + v + 4) = chk at *
  generalize hE4 : s.extract (n + v + 4) s.size = s3 at *
  generalize hE5 : s.extract n (n + v) = b at *
  generalize hE6 : Crc.four (Crc.ofB (s.extract 0 (n + v))) = tl at *
  generalize hE7 : s.extract 0 (n + v) = used at *
  clear hE1 hE2 hE3 hE4 hE5 hE6
  generalize hE8 : n + v = nv at *
  clear hE8
  go_enter Tryz.func67, Tryz.ntmps67
  go_wp2_with fail
  refine (HM.out _).mono ?_; rintro e w1 ⟨rfl, rfl⟩
  rw [HGo.out]
  go_wp2_with fail
  refine (HSM.out _ HC0.out).mono ?_; rintro e w2 ⟨rfl, h1, h2⟩
  have HB2 := Lib.hid (grown_trans HGR.out h2)
  have HC2 := Lib.hid h1
  obtain ⟨c0, c1, f0, f1⟩ := h1.cells
  clear h1 h2 f0 f1 HGR HC0
  have HE7 := Lib.hid hE7; clear hE7
  go_wp2_with fail
  refine (HTK1.out _ HC2.out).mono ?_; rintro e w3 ⟨rfl, h1, h2⟩
  have HB3 := Lib.hid (grown_trans HB2.out h2)
  have HC3 := Lib.hid h1
  clear c0 c1
  obtain ⟨c0, c1, f0, f1⟩ := h1.cells
  clear h1 h2 f0 f1 HB2 HC2
  go_upto_region 11 with fail
  clear d1 d2 d3 hwr hwv hwi hwi2 hwl x5 x6
  go_cut [52] (fun s52 wx => s52 = .bool (!(chk.toList == tl.toList)) ∧ CurAt w.heap.size s3 false wx ∧ w.grownBy wx (some w.heap.size))
  case first =>
    have hE7 := HE7.out
    clear c0 c1
    refine plain_held (fun _ => True) (by kernel_rfl) ?_
    have hcd : CurAt w.heap.size s2 false w3.drew := HC3.out
    have hgd := grown_drew HB3.out
    generalize w3.drew = wd at *
    have HCD := Lib.hid hcd; have HGD := Lib.hid hgd
    clear hcd hgd HC3 HB3
    refine wpAnyH_pickQ (by kernel_rfl) Only.panic Only.keepsIn (w := wd) trivial [1, 2, 3] 3 _ _ (by kernel_rfl) ?_
    refine PickQ.value (d := some 48) (.string s) rfl rfl (by kernel_rfl) (fun U hU => (by go_simp)) ?_
    refine PickQ.value (d := some 49) (.int .i64 nv) rfl rfl (by kernel_rfl) (fun U hU => (by go_simp)) ?_
    refine PickQ.value (d := some 50) (.string used) rfl rfl (by kernel_rfl) (fun U hU => (by go_simp)) ?_
    simp only [PickQ, Act.put, List.setIfInBounds_toArray]
    clear hE7
    refine wpAnyH_one (i := 0) (by kernel_rfl) rfl (by kernel_rfl) ?_
    intro K hK
    unfold Oper.wp
    go_simp
    refine (HTK2.out _ HCD.out).mono ?_; rintro e w4 ⟨rfl, h1, h2⟩
    refine hK _ _ trivial (fun _ => ?_)
    clear hK K
    have HC4 := Lib.hid h1; have HG4 := Lib.hid (grown_trans HGD.out h2); clear h1 h2
    refine wpAnyH_one (i := 4) (by kernel_rfl) rfl (by kernel_rfl) ?_
    intro K hK
    unfold Oper.wp
    go_simp
    refine (HTAIL.out _).mono ?_; rintro e w5 ⟨rfl, hb5⟩
    refine hK _ _ trivial (fun _ => ?_)
    clear hK K
    have HC5 := Lib.hid (heap_keep HC4.out hb5 : CurAt _ _ _ _); have HG5 := Lib.hid (grown_trans HG4.out (grown_of_below hb5)); clear hb5
    refine wpAnyH_one (i := 5) (by kernel_rfl) rfl (by kernel_rfl) ?_
    intro K hK
    unfold Oper.wp
    go_simp
    refine hK _ _ trivial (fun _ => ?_)
    clear hK K
    refine wpAnyH_done (by kernel_rfl) ?_ _
    refine Only.next ?_
    go_wp2_with fail
    go_meet
    exact ⟨rfl, HC5.out, HG5.out⟩
  case rest =>
    obtain ⟨rfl, hc9, hg9⟩ := hcut
    have HB9 := Lib.hid (below_of_grown (Below.refl w.heap.size w) hg9 (Nat.le_refl _) (Nat.le_refl _))
    clear c0 c1 hg9 HC3 HB3
    obtain ⟨c0, c1, f0, f1⟩ := hc9.cells
    clear hc9 f0 f1
    by_cases hck : chk = tl
    · have hb : (!(chk.toList == tl.toList)) = false := by rw [HBE.out]; simpa using hck
      rw [hb]
      have HCK := Lib.hid hck; clear hck hb
      go_wp2_with fail
      go_quiet (fail)
      go_wp2_with fail
      go_ret3
      rw [HGET.out, if_pos HCK.out]
      exact ⟨rfl, below_drewN HB9.out _⟩
    · have hb : (!(chk.toList == tl.toList)) = true := by rw [HBE.out]; simpa using hck
      rw [hb]
      have HCK := Lib.hid hck; clear hck hb
      go_wp2_with fail
      go_ret3
      rw [HGET.out, if_neg HCK.out]
      exact ⟨rfl, HB9.out⟩
end Go.Proofs.YtfibapfehgglhaaGreatDoor
/-
  Frames, one behind the other: the mathematics.
-/
namespace Go.Proofs.YtfibapfehgglhaaGreatDoor
open Go.RowKit
namespace Fr

/-- all frames, up to the first that is not whole: what they have, and what is behind them -/
def run (most : Int) : Nat → ByteArray → List ByteArray × ByteArray
  | 0, s => ([], s)
  | f + 1, s => if (get s most).2.2 = 0 then ((get s most).1 :: (run most f (get s most).2.1).1, (run most f (get s most).2.1).2) else ([], s)
def all (s : ByteArray) (most : Int) : List ByteArray × ByteArray := run most s.size s
/-- the shape of what is behind them -/
def shape (r : ByteArray) (most : Int) : Nat := if r = ByteArray.empty then 0 else (get r most).2.2

theorem run_fuel (most : Int) : ∀ (f g : Nat) (s : ByteArray), s.size ≤ f → s.size ≤ g → run most f s = run most g s
  | 0, 0, s, _, _ => rfl
  | 0, g + 1, s, hf, _ => by
    rw [run, run, if_neg]
    intro h
    have := get_less s most h
    omega
  | f + 1, 0, s, _, hg => by
    rw [run, run, if_neg]
    intro h
    have := get_less s most h
    omega
  | f + 1, g + 1, s, hf, hg => by
    rw [run, run]
    split
    · next h =>
      have := get_less s most h
      rw [run_fuel most f g _ (by omega) (by omega)]
    · rfl
theorem all_more (s : ByteArray) (most : Int) (h : (get s most).2.2 = 0) : all s most = ((get s most).1 :: (all (get s most).2.1 most).1, (all (get s most).2.1 most).2) := by
  have h1 := get_less s most h
  unfold all
  rw [show s.size = (s.size - 1) + 1 from by omega, run, if_pos h, run_fuel most (s.size - 1) (get s most).2.1.size _ (by omega) (Nat.le_refl _)]
theorem all_none (s : ByteArray) (most : Int) (h : (get s most).2.2 ≠ 0) : all s most = ([], s) := by
  unfold all
  cases s.size with
  | zero => rfl
  | succ f => rw [run, if_neg h]
theorem all_put (b r : ByteArray) (most : Int) (hm : (b.size : Int) ≤ most) (hb : b.size < 18446744073709551616) : all (put b ++ r) most = (b :: (all r most).1, (all r most).2) := by
  have h := get_put b r most hm hb
  rw [all_more _ _ (by rw [h]), h]
/-- frames behind each other -/
def puts : List ByteArray → ByteArray
  | [] => ByteArray.empty
  | b :: l => put b ++ puts l
theorem puts_snoc (l : List ByteArray) (b : ByteArray) : puts (l ++ [b]) = puts l ++ put b := by
  induction l with
  | nil => simp [puts]
  | cons a l ih => rw [List.cons_append, puts, puts, ih, ByteArray.append_assoc]
theorem puts_append (l m : List ByteArray) : puts (l ++ m) = puts l ++ puts m := by
  induction l with
  | nil => simp [puts]
  | cons a l ih => rw [List.cons_append, puts, puts, ih, ByteArray.append_assoc]
theorem puts_size_take (l : List ByteArray) (n : Nat) (h : n < l.length) : (puts (l.take (n + 1))).size = (puts (l.take n)).size + (put l[n]).size := by
  rw [List.take_succ_eq_append_getElem h, puts_snoc, ByteArray.size_append]
/-- whole frames ahead of any bytes -/
theorem all_puts (most : Int) (r : ByteArray) : ∀ l : List ByteArray, (∀ b ∈ l, (b.size : Int) ≤ most ∧ b.size < 18446744073709551616) → all (puts l ++ r) most = (l ++ (all r most).1, (all r most).2)
  | [], _ => by simp [puts]
  | b :: l, h => by
    have h1 := h b (List.mem_cons_self ..)
    rw [puts, ByteArray.append_assoc, all_put b _ most h1.1 h1.2, all_puts most r l (fun c hc => h c (List.mem_cons_of_mem _ hc))]
    rfl

/-- a number's bytes but for the last are 128 or more -/
theorem enc_high : ∀ (f n k : Nat), k < (Num.enc f n).length → ((Num.enc f n).take k).all (fun b => decide (128 ≤ b.toNat)) = true
  | f, n, 0, _ => by simp
  | 0, n, k + 1, h => by simp [Num.enc] at h
  | f + 1, n, k + 1, h => by
    rw [Num.enc] at h ⊢
    split at h
    · next hn =>
      rw [if_pos hn]
      have h2 := enc_high f (n / 128) k (by simp at h; exact h)
      rw [List.take_succ_cons, List.all_cons, h2, Bool.and_true]
      simp; omega
    · simp at h
/-- what is torn is short -/
theorem get_torn (b p r : ByteArray) (most : Int) (hm : (b.size : Int) ≤ most) (hb : b.size < 18446744073709551616) (hp : p ++ r = put b) (hr : r ≠ ByteArray.empty) : (get p most).2.2 = 1 := by
  have hrz : 1 ≤ r.size := by
    rcases Nat.eq_zero_or_pos r.size with h | h
    · exact absurd (ByteArray.size_eq_zero_iff.1 h) hr
    · exact h
  have hz : p.size + r.size = (Num.smallB b.size).size + b.size + 4 := by rw [← put_size, ← hp, ByteArray.size_append]
  have hpl := Crc.size_list p
  have hsl := Crc.size_list (Num.smallB b.size)
  have hd : p.data.toList ++ r.data.toList = (Num.smallB b.size).data.toList ++ (b ++ Crc.four (Crc.ofB (txt b))).data.toList := by
    rw [← Crc.data_append, hp, ← Crc.data_append]
    unfold put
    conv => lhs; arg 1; arg 1; arg 1; unfold txt
    rw [ByteArray.append_assoc]
  rcases Nat.lt_or_ge p.size (Num.smallB b.size).size with hlt | hge
  · have hpt : p.data.toList = (Num.smallB b.size).data.toList.take p.size := by
      have := congrArg (List.take p.size) hd
      rwa [List.take_left' hpl, List.take_append_of_le_length (by omega)] at this
    have hg : mayGo p = true := by
      unfold mayGo
      have h1 : p.data.toList.all (fun b => decide (128 ≤ b.toNat)) = true := by
        rw [hpt]
        exact enc_high 9 b.size p.size (by rw [← hsl] at hlt; exact hlt)
      have h2 := small_le b.size
      rw [h1, Bool.true_and]
      simp; omega
    unfold get
    rw [if_pos hg]
  · have hpe : ∃ q : ByteArray, p = Num.smallB b.size ++ q := by
      refine ⟨p.extract (Num.smallB b.size).size p.size, ?_⟩
      apply Crc.ba_ext
      rw [Crc.data_append, Crc.extract_data']
      have := congrArg (List.take (Num.smallB b.size).size) hd
      rw [List.take_left' hsl, List.take_append_of_le_length (by omega)] at this
      rw [← this, List.take_of_length_le (l := List.drop _ _) (by simp), List.take_append_drop]
    obtain ⟨q, rfl⟩ := hpe
    have hn : num (Num.smallB b.size ++ q) = (b.size, (Num.smallB b.size).size, true) := Num.decp_small b.size hb q
    have hg : mayGo (Num.smallB b.size ++ q) = false := num_ok_stop _ (by rw [hn])
    unfold get
    rw [hg, hn]
    simp only [Bool.false_eq_true, if_false]
    rw [if_neg (by rintro (h | h | h) <;> first | cases h | omega), if_pos (by omega)]
theorem all_torn (b p r : ByteArray) (most : Int) (hm : (b.size : Int) ≤ most) (hb : b.size < 18446744073709551616) (hp : p ++ r = put b) (hr : r ≠ ByteArray.empty) : all p most = ([], p) ∧ shape p most = if p = ByteArray.empty then 0 else 1 := by
  have h := get_torn b p r most hm hb hp hr
  refine ⟨all_none _ _ (by omega), ?_⟩
  unfold shape
  rw [h]
/-- a beginning of whole frames is whole frames, and a short one -/
theorem all_cut (most : Int) (l : List ByteArray) (hl : ∀ b ∈ l, (b.size : Int) ≤ most ∧ b.size < 18446744073709551616) (at' n : Nat) (_hn : n ≤ l.length) (h1 : (puts (l.take n)).size ≤ at') (h2 : n < l.length → at' < (puts (l.take (n + 1))).size) (ha : at' ≤ (puts l).size) :
    (all ((puts l).extract 0 at') most).1 = l.take n ∧ (all ((puts l).extract 0 at') most).2.size + (puts (l.take n)).size = at' ∧ shape (all ((puts l).extract 0 at') most).2 most = if (puts (l.take n)).size = at' then 0 else 1 := by
  have hall : ∀ b ∈ l.take n, (b.size : Int) ≤ most ∧ b.size < 18446744073709551616 := fun b hb => hl b (List.mem_of_mem_take hb)
  have hsp : puts l = puts (l.take n) ++ puts (l.drop n) := by rw [← puts_append, List.take_append_drop]
  have hz : (puts l).size = (puts (l.take n)).size + (puts (l.drop n)).size := by conv => lhs; rw [hsp, ByteArray.size_append]
  have he : (puts l).extract 0 at' = puts (l.take n) ++ (puts (l.drop n)).extract 0 (at' - (puts (l.take n)).size) := by
    apply Crc.ba_ext
    rw [Crc.extract_data', Crc.data_append, Crc.extract_data', hsp, Crc.data_append]
    have := Crc.size_list (puts (l.take n))
    simp only [List.drop_zero, Nat.sub_zero]
    rw [List.take_append, this, List.take_of_length_le (by omega)]
  rw [he, all_puts most _ _ hall]
  generalize hP : (puts (l.take n)).size = P at *
  rcases Nat.lt_or_ge n l.length with hlt | hge
  · have hd : l.drop n = l[n] :: l.drop (n + 1) := List.drop_eq_getElem_cons hlt
    have h3 := h2 hlt
    rw [puts_size_take l n hlt, hP] at h3
    have hb := hl l[n] (List.getElem_mem ..)
    have hx : (puts (l.drop n)).extract 0 (at' - P) = (put l[n]).extract 0 (at' - P) := by
      rw [hd, puts, ext_left _ _ _ (by omega)]
    rw [hx]
    have ht := all_torn l[n] ((put l[n]).extract 0 (at' - P)) ((put l[n]).extract (at' - P) (put l[n]).size) most hb.1 hb.2 (Num.split_at _ _) (fun e => by
      have := congrArg ByteArray.size e
      rw [ByteArray.size_extract] at this
      simp at this; omega)
    have hsz : ((put l[n]).extract 0 (at' - P)).size = at' - P := by rw [ByteArray.size_extract]; omega
    rw [ht.1]
    refine ⟨by simp, by rw [hsz]; omega, ?_⟩
    rw [ht.2]
    by_cases hE : P = at'
    · rw [if_pos hE, if_pos]
      apply ByteArray.size_eq_zero_iff.1; omega
    · rw [if_neg hE, if_neg]
      intro e
      have := congrArg ByteArray.size e
      rw [hsz] at this
      simp at this; omega
  · have hdr : l.drop n = [] := List.drop_of_length_le hge
    have hz0 : (puts (l.drop n)).size = 0 := by rw [hdr]; rfl
    have hex : (puts (l.drop n)).extract 0 (at' - P) = ByteArray.empty := by
      apply ByteArray.size_eq_zero_iff.1
      rw [ByteArray.size_extract]; omega
    rw [hex]
    have hae : all ByteArray.empty most = ([], ByteArray.empty) := rfl
    rw [hae]
    refine ⟨by simp, by show 0 + P = at'; omega, ?_⟩
    rw [if_pos (by omega)]
    rfl
end Fr
end Go.Proofs.YtfibapfehgglhaaGreatDoor
