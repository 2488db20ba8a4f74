/-
  What the functions of package label come to: Check.
-/
import Derived.Test.YtcdlkiephdghlaaLaA
import Derived.Test.YtcdlkiephdghlaaLabs
import Derived.Deep.DeepCutAuto
import Derived.Laws.Tables
namespace Go.Proofs.Ytcdlkiephdghlaa
open Go.RowKit
namespace La
/-- the first byte's mask -/
def first (s : ByteArray) : Nat := mask (s.data.toList.getD 0 0).toNat
def okName (s : ByteArray) : Bool := allB 2 s && decide (first s &&& 1 ≠ 0)
def okValue (s : ByteArray) : Bool := allB 4 s
/-- ahead, byte by byte -/
def less (a b : ByteArray) : Bool := Op.bytesLess a.toList b.toList
def okAt (f : Nat → Lab) (i : Nat) : Bool := (okName (f i).1 && okValue (f i).2) && (decide (i = 0) || less (f (i - 1)).1 (f i).1)
/-- labels that may be -/
def right (f : Nat → Lab) (n : Nat) : Bool := decide (1 ≤ n ∧ n ≤ 6) && (List.range n).all (okAt f)
theorem range_all_succ (p : Nat → Bool) (k : Nat) : (List.range (k + 1)).all p = ((List.range k).all p && p k) := by
  rw [List.range_succ, List.all_append]; simp
theorem right_no (f : Nat → Lab) (n k : Nat) (hk : k < n) (h : okAt f k = false) : right f n = false := by
  unfold right
  have : (List.range n).all (okAt f) = false := by
    rw [List.all_eq_false]
    exact ⟨k, List.mem_range.2 hk, by simp [h]⟩
  rw [this, Bool.and_false]
theorem right_yes (f : Nat → Lab) (n : Nat) (h1 : 1 ≤ n) (h2 : n ≤ 6) (h : (List.range n).all (okAt f) = true) : right f n = true := by
  unfold right; rw [h]; simp [h1, h2]
theorem allB_pos {m : Nat} {s : ByteArray} (h : allB m s = true) : 0 < s.size ∧ s.size ≤ 48 := by
  unfold allB at h
  simp only [Bool.and_eq_true, decide_eq_true_eq] at h
  omega
theorem first_eq (s : ByteArray) (h : 0 < s.size) : mask s[0].toNat = first s := by
  unfold first
  congr 2
  have h2 : 0 < s.data.toList.length := by simpa using h
  rw [List.getD_eq_getElem?_getD, List.getElem?_eq_getElem h2]
  rfl
theorem int_ne {v : Nat} (h : ¬ v = 0) : ((v : Int) == 0) = false := by simpa using h
def err (b : Bool) : Nat := if b then 0 else 2
end La

set_option maxRecDepth 100000 in
set_option maxHeartbeats 4000000 in
theorem Check_any (A : Option Addr) (n c : Nat) (hn : n ≤ maxLen) (f : Nat → Lab) (hs : ∀ i, i < n → (f i).1.size ≤ maxLen ∧ (f i).2.size ≤ maxLen) (w : World) (hA : LabRow w A n f) :
    Calls Try.prog 49 #[.slice A n c] w fun e w' => e = .returned (.int .i64 ((La.err (La.right f n) : Nat) : Int)) ∧ Below w.heap.size w w' := by
  unfold maxLen at hn
  have HA := Lib.hid hA; have HSZ := Lib.hid hs; clear hA hs
  by_cases hr : 1 ≤ n ∧ n ≤ 6
  · obtain ⟨hn1, hn6⟩ := hr
    have d1 : decide ((n : Int) < 1) = false := by simp; omega
    have d2 : decide ((6 : Int) < (n : Int)) = false := by simp; omega
    have hz := zero_masks
    have h43 : (Try.prog.info? 71).map (·.size) = some 256 := by kernel_rfl
    have hz0 := La.cellsOf_size (La.part1 32)
    have hzm := La.cellsOf_size La.mask
    have hone := La.cellsOf_one La.mask
    go_enter Try.func49, Try.ntmps49
    go_wp2_with fail
    refine (masks_any _).mono ?_; rintro e w1 ⟨rfl, hb1⟩
    have hb2 := hb1.alloc hb1.size (.cells (La.cellsOf La.mask) 71)
    have hm2 : MaskAt (w1.alloc (.cells (La.cellsOf La.mask) 71)) w1.heap.size := heap_alloc_new _ _
    have HB2 := Lib.hid hb2; have HM2 := Lib.hid hm2; clear hb1 hb2 hm2
    go_upto_region 4 with (refine wpList_store_row rfl 71 (.tmp 3) (.tmp 14) rfl w1.heap.size (La.cellsOf La.mask) rfl rfl 71 (La.cellsOf (La.part1 32)) (heap_alloc_new w1 _) (by rw [hzm]; exact h43) (by omega) hone ?_)
    rw [setRow_alloc]
    generalize w1.alloc (.cells (La.cellsOf La.mask) 71) = w2 at *
    generalize w1.heap.size = g at *
    clear hz h43 hz0 hzm hone
    go_wp2_with fail
    go_loopw [17] (fun i wr => ∃ k : Nat, k ≤ n ∧ i = .int .i64 k ∧ (List.range k).all (La.okAt f) = true ∧ MaskAt wr g ∧ Below w.heap.size w wr) (fun i _ => n - (intOf i).toNat)
    case atStart => exact ⟨0, by omega, rfl, rfl, HM2.out, HB2.out⟩
    case round =>
      obtain ⟨k, hk, rfl, hall, hm, hb⟩ := hrel
      have HALL := Lib.hid hall; have HM := Lib.hid hm; have HB := Lib.hid hb
      clear hall hm hb
      by_cases hlt : k < n
      · obtain ⟨ad, rfl, c0, c1⟩ := HA.out.at_ HB.out hlt
        have hsz := HSZ.out k hlt
        have hok : La.okAt f k = ((La.okName (f k).1 && La.okValue (f k).2) && (decide (k = 0) || La.less (f (k - 1)).1 (f k).1)) := rfl
        have HOK := Lib.hid hok; clear hok
        have hal : Below wr.heap.size wr (wr.alloc (.cells #[.string (f k).1, .string (f k).2] 49)) := (Below.refl _ _).alloc (Nat.le_refl _) _
        have hrow : RowIs (wr.alloc (.cells #[.string (f k).1, .string (f k).2] 49)) wr.heap.size (.cells #[.string (f k).1, .string (f k).2] 49) := RowIs.one _ _
        have HBA := Lib.hid (below_step HB.out hal); have HMA := Lib.hid (HM.out.later hal); have HROW := Lib.hid hrow
        have HPREV := Lib.hid (fun (W : World) (hb : Below w.heap.size w W) (h0 : k ≠ 0) => HA.out.at_ hb (show k - 1 < n by omega))
        clear hal hrow
        obtain ⟨x, hx⟩ : ∃ x, (f k).1 = x := ⟨_, rfl⟩
        obtain ⟨y, hy⟩ : ∃ y, (f k).2 = y := ⟨_, rfl⟩
        rw [hx] at c0 HBA HMA HROW HOK hsz
        rw [hy] at c1 HBA HMA HROW HOK hsz
        obtain ⟨hsx, hsy⟩ := hsz
        have HX := Lib.hid hx; have HY := Lib.hid hy; clear hx hy
        generalize hwa : wr.alloc (.cells #[.string x, .string y] 49) = wa at *
        have hgl : wr.heap.size < wa.heap.size := by rw [← hwa]; simp
        have xa0 : wa.cell? ⟨wr.heap.size, 0, none⟩ = some (.string x) := cell_of_row _ _ _ _ _ _ HROW.out
        have ya0 : wa.cell? ⟨wr.heap.size, 1, none⟩ = some (.string y) := cell_of_row _ _ _ _ _ _ HROW.out
        by_cases q1 : La.allB 2 x = true
        · have hpos := (La.allB_pos q1).1
          go_wp2_with fail
          refine (all_any g x hsx 2 (by omega) _ HMA.out).mono ?_; rintro e w4 ⟨rfl, hb4⟩
          have HB4 := Lib.hid (below_step HBA.out hb4); have HM4 := Lib.hid (HMA.out.later hb4); have HROW4 := Lib.hid (HROW.out.keep hb4)
          clear hb4
          have x0 : w4.cell? ⟨wr.heap.size, 0, none⟩ = some (.string x) := cell_of_row _ _ _ _ _ _ HROW4.out
          have y0 : w4.cell? ⟨wr.heap.size, 1, none⟩ = some (.string y) := cell_of_row _ _ _ _ _ _ HROW4.out
          rw [q1]
          have hfst : w4.cell? ⟨g, x[0].toNat, none⟩ = some (.int .u8 (La.first x : Nat)) := by rw [HM4.out.cell, La.first_eq x hpos]
          have hand : bits BinOp.and IntKind.u8 ((La.first x : Nat) : Int) 1 = ((La.first x &&& 1 : Nat) : Int) := u8_and_nat (La.first x) 1 (La.mask_lt _) (by decide)
          have j1 : ((x[0].toNat : Nat) : Int) < 256 := by have := x[0].toNat_lt; omega
          have j0 : (0 : Int) ≤ ((x[0].toNat : Nat) : Int) := by omega
          by_cases q2 : La.first x &&& 1 = 0
          · rw [q2] at hand
            have Q1 := Lib.hid q1; have Q2 := Lib.hid q2; clear q1 q2
            generalize hfm : La.first x = fm at *
            have HFM := Lib.hid hfm; clear hfm
            go_wp2_with fail
            go_ret
            refine ⟨?_, HB4.out⟩
            have hno : La.right f n = false := La.right_no f n k hlt (by rw [HOK.out]; unfold La.okName La.okValue; simp [HFM.out, Q2.out])
            rw [hno]; rfl
          · have hne : (((La.first x &&& 1 : Nat) : Int) == 0) = false := La.int_ne q2
            have Q1 := Lib.hid q1; have Q2 := Lib.hid q2; clear q1 q2
            generalize hfm : La.first x = fm at *
            generalize hfv : fm &&& 1 = fv at *
            have HFM := Lib.hid hfm; have HFV := Lib.hid hfv; clear hfm hfv
            go_wp2_with fail
            refine (all_any g y hsy 4 (by omega) _ HM4.out).mono ?_; rintro e w5 ⟨rfl, hb5⟩
            have HB5 := Lib.hid (below_step HB4.out hb5); have HM5 := Lib.hid (HM4.out.later hb5); have HROW5 := Lib.hid (HROW4.out.keep hb5)
            clear hb5 x0 y0 hfst
            have x0 : w5.cell? ⟨wr.heap.size, 0, none⟩ = some (.string x) := cell_of_row _ _ _ _ _ _ HROW5.out
            by_cases q3 : La.allB 4 y = true
            · rw [q3]
              have Q3 := Lib.hid q3; clear q3
              by_cases k0 : k = 0
              · have hd0 : decide ((0 : Int) < (k : Int)) = false := by simp; omega
                have hd0n : decide (0 < k) = false := by simp; omega
                go_wp2_with fail
                go_quiet (fail)
                go_wp2_with fail
                go_roundw
                case rel =>
                  refine ⟨k + 1, by omega, by go_num, ?_, HM5.out, below_drewN HB5.out _⟩
                  rw [La.range_all_succ, HALL.out, HOK.out]
                  unfold La.okName La.okValue
                  rw [Q1.out, Q3.out, HFM.out]
                  have q2 := Q2.out
                  simp [HFV.out, q2, k0]
                case measure => simp [intOf]; omega
              · have hd0 : decide ((0 : Int) < (k : Int)) = true := by simp; omega
                have hd0n : decide (0 < k) = true := by simp; omega
                obtain ⟨ad', e1, p0, _⟩ := HPREV.out w5 HB5.out k0
                cases e1
                have i1 : ((k : Int) - 1).toNat = k - 1 := by omega
                have i2 : IntKind.i64.wrap ((k : Int) - 1) = (k : Int) - 1 := IntWalk.i64_in _ (by omega)
                have i3 : (1 : Int) ≤ (k : Int) := by omega
                have i4 : (k : Int) - 1 < (n : Int) := by omega
                have i5 : (0 : Int) ≤ (k : Int) - 1 := by omega
                obtain ⟨z, hz⟩ : ∃ z, (f (k - 1)).1 = z := ⟨_, rfl⟩
                rw [hz] at p0
                have HZ := Lib.hid hz; clear hz
                by_cases hl : Op.bytesLess z.toList x.toList = true
                · have hlb : (!(Op.bytesLess z.toList x.toList)) = false := by rw [hl]; rfl
                  have HL := Lib.hid hl; clear hl
                  go_wp2_with fail
                  go_quiet (fail)
                  go_wp2_with fail
                  go_roundw
                  case rel =>
                    refine ⟨k + 1, by omega, by go_num, ?_, HM5.out, below_drewN HB5.out _⟩
                    rw [La.range_all_succ, HALL.out, HOK.out]
                    unfold La.okName La.okValue
                    rw [Q1.out, Q3.out, HFM.out]
                    have q2 := Q2.out
                    simp [HFV.out, q2, La.less, HZ.out, HL.out]
                  case measure => simp [intOf]; omega
                · have hlb : (!(Op.bytesLess z.toList x.toList)) = true := by simpa using hl
                  have HL := Lib.hid hl; clear hl
                  go_wp2_with fail
                  go_quiet (fail)
                  go_wp2_with fail
                  go_ret
                  refine ⟨?_, below_drewN HB5.out _⟩
                  have hno : La.right f n = false := La.right_no f n k hlt (by rw [HOK.out, HZ.out]; unfold La.less; have hl := HL.out; simp [k0, hl])
                  rw [hno]; rfl
            · have q3' : La.allB 4 y = false := by simpa using q3
              rw [q3']
              have Q3 := Lib.hid q3'; clear q3 q3'
              go_wp2_with fail
              go_ret
              refine ⟨?_, HB5.out⟩
              have hno : La.right f n = false := La.right_no f n k hlt (by rw [HOK.out]; unfold La.okName La.okValue; simp [Q3.out])
              rw [hno]; rfl
        · have q1' : La.allB 2 x = false := by simpa using q1
          go_wp2_with fail
          refine (all_any g x hsx 2 (by omega) _ HMA.out).mono ?_; rintro e w4 ⟨rfl, hb4⟩
          have HB4 := Lib.hid (below_step HBA.out hb4); have HM4 := Lib.hid (HMA.out.later hb4); have HROW4 := Lib.hid (HROW.out.keep hb4)
          clear hb4
          have x0 : w4.cell? ⟨wr.heap.size, 0, none⟩ = some (.string x) := cell_of_row _ _ _ _ _ _ HROW4.out
          have y0 : w4.cell? ⟨wr.heap.size, 1, none⟩ = some (.string y) := cell_of_row _ _ _ _ _ _ HROW4.out
          rw [q1']
          have Q1 := Lib.hid q1'; clear q1 q1'
          go_wp2_with fail
          go_ret
          refine ⟨?_, HB4.out⟩
          have hno : La.right f n = false := La.right_no f n k hlt (by rw [HOK.out]; unfold La.okName La.okValue; simp [Q1.out])
          rw [hno]; rfl
      · obtain rfl : k = n := by omega
        go_wp2_with fail
        go_ret
        refine ⟨?_, HB.out⟩
        rw [La.right_yes f k hn1 hn6 HALL.out]; rfl
  · have hno : La.right f n = false := by unfold La.right; rw [decide_eq_false hr, Bool.false_and]
    rw [hno]
    have hd : decide ((n : Int) < 1) = true ∨ (decide ((n : Int) < 1) = false ∧ decide ((6 : Int) < (n : Int)) = true) := by
      simp only [decide_eq_true_eq, decide_eq_false_iff_not]; omega
    clear hr hno
    rcases hd with d1 | ⟨d1, d2⟩
    all_goals
      go_enter Try.func49, Try.ntmps49
      go_wp2_with fail
      go_ret
      exact ⟨rfl, Below.refl _ _⟩
end Go.Proofs.Ytcdlkiephdghlaa
