import Derived.Test.YtaillfnmaiiapaaArr
import Derived.Deep.DeepMust
import Derived.Test.YtaillfnmaiiapaaLabs
import Derived.Deep.DeepCutAuto
import Derived.Laws.Tables
import Derived.Test.YtaillfnmaiiapaaBld
import Derived.Test.YtaillfnmaiiapaaNumG
import Derived.Laws.StructEq
import Derived.RangeFuncBox
/-
  What the functions of package label come to: masks, all.
-/
namespace Go.Proofs.Ytaillfnmaiiapaa
open Go.RowKit
namespace La
/-- what a byte may be -/
def mask (b : Nat) : Nat := if 97 ≤ b ∧ b ≤ 122 then 7 else if b = 95 then 7 else if 48 ≤ b ∧ b ≤ 57 then 6 else if 32 ≤ b ∧ b ≤ 126 then 4 else 0
/-- between the loops -/
def part1 (k b : Nat) : Nat := if 32 ≤ b ∧ b < k then 4 else 0
def part2 (k b : Nat) : Nat := part1 127 b + if 97 ≤ b ∧ b < k then 3 else 0
def part3 (k b : Nat) : Nat := part2 123 b + if 48 ≤ b ∧ b < k then 2 else 0
def cellsOf (f : Nat → Nat) : Array Value := (List.map (fun i : Nat => Value.int .u8 (f i : Nat)) (List.range 256)).toArray
theorem cellsOf_size (f : Nat → Nat) : (cellsOf f).size = 256 := by simp [cellsOf]
theorem cellsOf_get (f : Nat → Nat) (i : Nat) (h : i < 256) : (cellsOf f)[i]? = some (.int .u8 (f i : Nat)) := by simp [cellsOf, h]
theorem cellsOf_one (f : Nat → Nat) : (cellsOf f).all (·.oneCell') = true := by
  simp [cellsOf, Value.oneCell']
theorem cellsOf_eq (f g : Nat → Nat) (h : ∀ i, i < 256 → f i = g i) : cellsOf f = cellsOf g := by
  unfold cellsOf
  congr 1
  apply List.map_congr_left
  intro i hi
  rw [h i (List.mem_range.1 hi)]
theorem cellsOf_set (f g : Nat → Nat) (k v : Nat) (hk : k < 256) (hv : g k = v) (h : ∀ i, i < 256 → i ≠ k → f i = g i) : (cellsOf f).setIfInBounds k (.int .u8 (v : Nat)) = cellsOf g := by
  apply Array.ext_getElem?
  intro i
  rw [Array.getElem?_setIfInBounds]
  by_cases hi : i < 256
  · rw [cellsOf_get _ _ hi, cellsOf_get _ _ hi, cellsOf_size]
    by_cases e : k = i
    · subst e; simp [hk, hv]
    · rw [if_neg e, h i hi (fun e2 => e e2.symm)]
  · have h1 : (cellsOf f)[i]? = none := by simp [cellsOf_size]; omega
    have h2 : (cellsOf g)[i]? = none := by simp [cellsOf_size]; omega
    rw [h1, h2, cellsOf_size, if_neg (by omega)]
theorem zero_cells : cellsOf (part1 32) = (List.replicate 256 (Value.int .u8 0)).toArray := by kernel_rfl
theorem last_part : ∀ i : Fin 256, i.val ≠ 95 → part3 58 i.val = mask i.val := by decide +kernel
theorem last_cells : (cellsOf (part3 58)).setIfInBounds 95 (.int .u8 7) = cellsOf mask :=
  cellsOf_set (part3 58) mask 95 7 (by decide) (by decide) (fun i hi hne => last_part ⟨i, hi⟩ hne)
theorem step1 (k : Nat) (h1 : 32 ≤ k) (h2 : k ≤ 126) : (cellsOf (part1 k)).setIfInBounds k (.int .u8 4) = cellsOf (part1 (k + 1)) :=
  cellsOf_set (part1 k) (part1 (k + 1)) k 4 (by omega) (by unfold part1; rw [if_pos (by omega)]) (fun i _ hne => by
    unfold part1
    by_cases h : 32 ≤ i ∧ i < k
    · rw [if_pos h, if_pos (by omega)]
    · rw [if_neg h, if_neg (by omega)])
theorem step2 (k : Nat) (h2 : k ≤ 122) : (cellsOf (part2 k)).setIfInBounds k (.int .u8 (part2 (k + 1) k : Nat)) = cellsOf (part2 (k + 1)) :=
  cellsOf_set (part2 k) (part2 (k + 1)) k _ (by omega) rfl (fun i _ hne => by
    unfold part2
    congr 1
    by_cases h : 97 ≤ i ∧ i < k
    · rw [if_pos h, if_pos (by omega)]
    · rw [if_neg h, if_neg (by omega)])
theorem step3 (k : Nat) (h2 : k ≤ 57) : (cellsOf (part3 k)).setIfInBounds k (.int .u8 (part3 (k + 1) k : Nat)) = cellsOf (part3 (k + 1)) :=
  cellsOf_set (part3 k) (part3 (k + 1)) k _ (by omega) rfl (fun i _ hne => by
    unfold part3
    congr 1
    by_cases h : 48 ≤ i ∧ i < k
    · rw [if_pos h, if_pos (by omega)]
    · rw [if_neg h, if_neg (by omega)])
theorem start2 : cellsOf (part1 127) = cellsOf (part2 97) := cellsOf_eq _ _ (fun i _ => by unfold part2; rw [if_neg (by omega)]; rfl)
theorem start3 : cellsOf (part2 123) = cellsOf (part3 48) := cellsOf_eq _ _ (fun i _ => by unfold part3; rw [if_neg (by omega)]; rfl)
theorem or3 : ∀ k : Fin 256, 97 ≤ k.val → k.val ≤ 122 → bits BinOp.or IntKind.u8 ((part2 k.val k.val : Nat) : Int) 3 = ((part2 (k.val + 1) k.val : Nat) : Int) := by decide +kernel
theorem or2 : ∀ k : Fin 256, 48 ≤ k.val → k.val ≤ 57 → bits BinOp.or IntKind.u8 ((part3 k.val k.val : Nat) : Int) 2 = ((part3 (k.val + 1) k.val : Nat) : Int) := by decide +kernel
end La
theorem grown_setRow (w : World) (g : Nat) (cs : Array Value) : w.grownBy (w.setRow g cs) (some g) :=
  ⟨rfl, rfl, rfl, by simp, fun k _ hne => setRow_other w g k cs (fun e => hne (by rw [e]))⟩
theorem zero_masks (w : World) : (zeroValue 94).run Try.prog w = .ok (.agg (La.cellsOf (La.part1 32))) w := by
  rw [La.zero_cells]; kernel_rfl

set_option maxRecDepth 100000 in
set_option maxHeartbeats 1000000 in
theorem masks_any (w : World) :
    Calls Try.prog 37 #[] w fun e w' => e = .returned (.agg (La.cellsOf La.mask)) ∧ Below w.heap.size w w' := by
  have hz := zero_masks
  have HZ := Lib.hid (La.cellsOf_size)
  go_enter Try.func37, Try.ntmps37
  go_wp2_with fail
  go_loopw [2] (fun v wr => ∃ k : Nat, 32 ≤ k ∧ k ≤ 127 ∧ v = .int .u8 k ∧ wr = (w.alloc (.cells (La.cellsOf (La.part1 32)) 94)).alloc (.cells (La.cellsOf (La.part1 k)) 94)) (fun v _ => 127 - (intOf v).toNat)
  case atStart => exact ⟨32, by omega, by omega, rfl, rfl⟩
  case round =>
    obtain ⟨k, hk1, hk2, rfl, rfl⟩ := hrel
    by_cases h : k ≤ 126
    · have hg := La.cellsOf_get (La.part1 k) k (by omega)
      have HS := Lib.hid (La.step1 k hk1 h)
      have hzz := La.cellsOf_size (La.part1 k)
      generalize Value.int .u8 ((La.part1 k k : Nat) : Int) = v0 at hg
      generalize hc : La.cellsOf (La.part1 k) = ck at *
      have HC := Lib.hid hc; clear hc
      go_wp2_with fail
      go_roundw
      case rel => exact ⟨k + 1, by omega, by omega, by go_num, by rw [HS.out]⟩
      case measure => simp [intOf]; omega
    · obtain rfl : k = 127 := by omega
      rw [La.start2]
      go_wp2_with fail
      go_loopw [3] (fun v wr => ∃ k : Nat, 97 ≤ k ∧ k ≤ 123 ∧ v = .int .u8 k ∧ wr = (w.alloc (.cells (La.cellsOf (La.part1 32)) 94)).alloc (.cells (La.cellsOf (La.part2 k)) 94)) (fun v _ => 123 - (intOf v).toNat)
      case atStart => exact ⟨97, by omega, by omega, rfl, rfl⟩
      case round =>
        obtain ⟨k, hk3, hk4, rfl, rfl⟩ := hrel
        by_cases h : k ≤ 122
        · have hg := La.cellsOf_get (La.part2 k) k (by omega)
          have HS := Lib.hid (La.step2 k h)
          have hzz := La.cellsOf_size (La.part2 k)
          have hor := La.or3 ⟨k, by omega⟩ hk3 h
          simp only at hor
          generalize La.part2 k k = a0 at *
          generalize La.part2 (k + 1) k = a1 at *
          generalize hc : La.cellsOf (La.part2 k) = ck at *
          have HC := Lib.hid hc; clear hc
          go_wp2_with fail
          go_roundw
          case rel => exact ⟨k + 1, by omega, by omega, by go_num, by rw [HS.out]⟩
          case measure => simp [intOf]; omega
        · obtain rfl : k = 123 := by omega
          rw [La.start3]
          go_wp2_with fail
          go_loopw [4] (fun v wr => ∃ k : Nat, 48 ≤ k ∧ k ≤ 58 ∧ v = .int .u8 k ∧ wr = (w.alloc (.cells (La.cellsOf (La.part1 32)) 94)).alloc (.cells (La.cellsOf (La.part3 k)) 94)) (fun v _ => 58 - (intOf v).toNat)
          case atStart => exact ⟨48, by omega, by omega, rfl, rfl⟩
          case round =>
            obtain ⟨k, hk5, hk6, rfl, rfl⟩ := hrel
            by_cases h : k ≤ 57
            · have hg := La.cellsOf_get (La.part3 k) k (by omega)
              have HS := Lib.hid (La.step3 k h)
              have hzz := La.cellsOf_size (La.part3 k)
              have hor := La.or2 ⟨k, by omega⟩ hk5 h
              simp only at hor
              generalize La.part3 k k = a0 at *
              generalize La.part3 (k + 1) k = a1 at *
              generalize hc : La.cellsOf (La.part3 k) = ck at *
              have HC := Lib.hid hc; clear hc
              go_wp2_with fail
              go_roundw
              case rel => exact ⟨k + 1, by omega, by omega, by go_num, by rw [HS.out]⟩
              case measure => simp [intOf]; omega
            · obtain rfl : k = 58 := by omega
              have hg := La.cellsOf_get (La.part3 58) 95 (by omega)
              have hzz := La.cellsOf_size (La.part3 58)
              have hor : bits BinOp.or IntKind.u8 ((La.part3 58 95 : Nat) : Int) 3 = 7 := by decide +kernel
              have HS := Lib.hid La.last_cells
              generalize La.part3 58 95 = a0 at *
              generalize hc : La.cellsOf (La.part3 58) = ck at *
              have HC := Lib.hid hc; clear hc
              have hg2 : ck[95]'(by omega) = .int .u8 (a0 : Int) := (Array.getElem?_eq_some_iff.1 hg).2
              have hz0 := La.cellsOf_size (La.part1 32)
              have hzm := La.cellsOf_size La.mask
              have h43 : (Try.prog.info? 94).map (·.size) = some 256 := by kernel_rfl
              have hone := La.cellsOf_one La.mask
              generalize hc0 : La.cellsOf (La.part1 32) = c0 at *
              have HC0 := Lib.hid hc0; clear hc0
              generalize hcm : La.cellsOf La.mask = cm at *
              have HCM := Lib.hid hcm; clear hcm
              go_wp2_with (first
                | (refine wpList_load_row rfl 94 (.tmp 1) rfl (w.heap.size + 1) rfl 94 cm (0, 0) _ (by rw [← HS.out]; exact heap_alloc2_new w _ _) Try.underlying94 rfl (by rw [hzm]; exact h43) ?_)
                | (refine wpList_store_row rfl 94 (.tmp 0) (.tmp 33) rfl w.heap.size cm rfl rfl 94 c0 (heap_alloc2_old w _ _) (by rw [hzm]; exact h43) (by omega) hone ?_))
              have hb9 := ((Below.refl w.heap.size w).alloc (Nat.le_refl _) (.cells c0 94)).alloc (by simp) (.cells (ck.setIfInBounds 95 (.int .u8 7)) 94)
              refine bodyPost_ret (v := .agg cm) ?_ rfl ⟨by rw [HCM.out], hb9.grown (grown_setRow _ w.heap.size cm) hb9.size (fun r e => by cases e; exact Nat.le_refl _)⟩
              exact results_cell_row rfl _ _ w.heap.size 94 cm (0, 0) _ rfl (setRow_heap _ _ c0 cm _ _ (heap_alloc2_old w _ _)) Try.underlying94 rfl (by rw [hzm]; exact h43)

namespace La
/-- the mask at work: all bytes of s may be so -/
def allB (m : Nat) (s : ByteArray) : Bool := s.data.toList.all (fun b => decide ((mask b.toNat) &&& m ≠ 0)) && (decide (s.size ≠ 0) && decide (s.size ≤ 48))
theorem isEmpty_eq (s : ByteArray) : s.toList.isEmpty = decide (s.size = 0) := by
  rw [ByteArray.toList_eq]
  have h : s.data.toList.length = s.size := by simp
  cases hl : s.data.toList with
  | nil => rw [hl] at h; simp at h; simp [← h]
  | cons a l =>
    rw [hl, List.length_cons] at h
    rw [List.isEmpty_cons]
    exact (decide_eq_false (by omega)).symm
theorem mask_lt (b : Nat) : mask b < 256 := by unfold mask; (repeat' split) <;> decide
end La
/-- the table at block g -/
def MaskAt (W : World) (g : Nat) : Prop := W.heap[g]? = some (.cells (La.cellsOf La.mask) 94 (0, 0))
theorem MaskAt.later {W W2 : World} {g : Nat} (h : MaskAt W g) (hb : Below W.heap.size W W2) : MaskAt W2 g := heap_keep h hb
theorem MaskAt.cell {W : World} {g : Nat} (h : MaskAt W g) (b : UInt8) : W.cell? ⟨g, b.toNat, none⟩ = some (.int .u8 (La.mask b.toNat : Nat)) := by
  rw [cell_of_row _ _ _ _ _ _ h, La.cellsOf_get _ _ b.toNat_lt]

set_option maxRecDepth 100000 in
set_option maxHeartbeats 1000000 in
theorem all_any (g : Nat) (s : ByteArray) (hs : s.size ≤ maxLen) (m : Nat) (hm : m < 256) (w : World) (hg : MaskAt w g) :
    Calls Try.prog 38 #[.pointer (some ⟨g, 0, none⟩), .string s, .int .u8 m] w fun e w' => e = .returned (.bool (La.allB m s)) ∧ Below w.heap.size w w' := by
  unfold maxLen at hs
  have hall : La.allB m s = (s.data.toList.all (fun b => decide ((La.mask b.toNat) &&& m ≠ 0)) && (decide (s.size ≠ 0) && decide (s.size ≤ 48))) := rfl
  generalize La.allB m s = r at *
  have HR := Lib.hid hall; have HG := Lib.hid hg
  clear hall hg
  go_enter Try.func38, Try.ntmps38
  go_wp2_with fail
  go_loopw [10] (fun i wr => ∃ k : Nat, k ≤ s.size ∧ i = .int .i64 k ∧ (s.data.toList.take k).all (fun b => decide ((La.mask b.toNat) &&& m ≠ 0)) = true ∧ Below w.heap.size w wr) (fun i _ => s.size - (intOf i).toNat)
  case atStart => exact ⟨0, by omega, rfl, rfl, Below.refl _ _⟩
  case round =>
    obtain ⟨k, hk, rfl, ha, hb⟩ := hrel
    have HA := Lib.hid ha; have HB := Lib.hid hb; clear ha hb
    by_cases hlt : k < s.size
    · have hsn : s.data.toList.take (k + 1) = s.data.toList.take k ++ [s[k]] := by
        rw [List.take_succ_eq_append_getElem (by simpa using hlt)]; rfl
      have HSN := Lib.hid hsn; clear hsn
      have hc0 := (HG.out.later HB.out).cell s[k]
      have hby := s[k].toNat_lt
      have hml := La.mask_lt s[k].toNat
      have hand : bits BinOp.and IntKind.u8 ((La.mask s[k].toNat : Nat) : Int) (m : Int) = ((La.mask s[k].toNat &&& m : Nat) : Int) := u8_and_nat _ _ hml hm
      have i1 : (k : Int) < (s.size : Int) := by omega
      have i0 : (0 : Int) ≤ (k : Int) := by omega
      generalize hx : s[k] = x at *
      have j1 : ((x.toNat : Nat) : Int) < 256 := by omega
      have j0 : (0 : Int) ≤ ((x.toNat : Nat) : Int) := by omega
      by_cases hz : La.mask x.toNat &&& m = 0
      · generalize hmk : La.mask x.toNat = mk at *
        rw [hz] at hand
        have HZ := Lib.hid hz
        have HMK : Hid (decide (La.mask x.toNat &&& m ≠ 0) = false) := Lib.hid (by rw [hmk, hz]; rfl)
        clear hz hmk
        go_wp2_with fail
        go_quiet (fail)
        go_wp2_with fail
        go_ret
        refine ⟨?_, below_drewN HB.out _⟩
        rw [HR.out]
        have hsp : s.data.toList = s.data.toList.take (k + 1) ++ s.data.toList.drop (k + 1) := (List.take_append_drop _ _).symm
        have : s.data.toList.all (fun b => decide ((La.mask b.toNat) &&& m ≠ 0)) = false := by
          rw [hsp, HSN.out, List.all_append, List.all_append]
          simp only [List.all_cons, List.all_nil, Bool.and_true]
          rw [HMK.out]
          simp
        rw [this]; rfl
      · generalize hv : La.mask x.toNat &&& m = v at *
        have HV := Lib.hid hv; clear hv
        have hne : ((v : Int) == 0) = false := by simp; omega
        have HZ := Lib.hid hz; clear hz
        generalize hmk : La.mask x.toNat = mk at *
        have HMK := Lib.hid hmk; clear hmk
        go_wp2_with fail
        go_quiet (fail)
        go_wp2_with fail
        go_roundw
        case rel =>
          refine ⟨k + 1, by omega, by go_num, ?_, below_drewN HB.out _⟩
          rw [HSN.out, List.all_append, HA.out]
          simp only [List.all_cons, List.all_nil, Bool.and_true, Bool.true_and, HMK.out, HV.out]
          simpa using HZ.out
        case measure => simp [intOf]; omega
    · have hE : s.data.toList.all (fun b => decide ((La.mask b.toNat) &&& m ≠ 0)) = true := by
        have := HA.out
        rwa [List.take_of_length_le (by simp; omega)] at this
      have HE := Lib.hid hE; clear hE
      have hem := La.isEmpty_eq s
      by_cases h0 : s.size = 0
      · have he : s.toList.isEmpty = true := by rw [hem]; simp [h0]
        have H0 := Lib.hid h0; clear h0 hem
        go_wp2_with fail
        go_ret
        refine ⟨?_, HB.out⟩
        rw [HR.out, HE.out]
        simp [H0.out]
      · have he : s.toList.isEmpty = false := by rw [hem]; simp [h0]
        have H0 := Lib.hid h0; clear h0 hem
        go_wp2_with fail
        go_ret
        refine ⟨?_, HB.out⟩
        rw [HR.out, HE.out]
        have := H0.out
        simp [this]; omega
end Go.Proofs.Ytaillfnmaiiapaa
/-
  What the functions of package label come to: Check.
-/
namespace Go.Proofs.Ytaillfnmaiiapaa
open Go.RowKit
namespace La
/-- the first byte's mask -/
def first (s : ByteArray) : Nat := mask (s.data.toList.getD 0 0).toNat
def okName (s : ByteArray) : Bool := allB 2 s && decide (first s &&& 1 ≠ 0)
def okValue (s : ByteArray) : Bool := allB 4 s
/-- ahead, byte by byte -/
def less (a b : ByteArray) : Bool := Op.bytesLess a.toList b.toList
def okAt (f : Nat → Lab) (i : Nat) : Bool := (okName (f i).1 && okValue (f i).2) && (decide (i = 0) || less (f (i - 1)).1 (f i).1)
/-- labels that may be -/
def right (f : Nat → Lab) (n : Nat) : Bool := decide (1 ≤ n ∧ n ≤ 6) && (List.range n).all (okAt f)
theorem range_all_succ (p : Nat → Bool) (k : Nat) : (List.range (k + 1)).all p = ((List.range k).all p && p k) := by
  rw [List.range_succ, List.all_append]; simp
theorem right_no (f : Nat → Lab) (n k : Nat) (hk : k < n) (h : okAt f k = false) : right f n = false := by
  unfold right
  have : (List.range n).all (okAt f) = false := by
    rw [List.all_eq_false]
    exact ⟨k, List.mem_range.2 hk, by simp [h]⟩
  rw [this, Bool.and_false]
theorem right_yes (f : Nat → Lab) (n : Nat) (h1 : 1 ≤ n) (h2 : n ≤ 6) (h : (List.range n).all (okAt f) = true) : right f n = true := by
  unfold right; rw [h]; simp [h1, h2]
theorem allB_pos {m : Nat} {s : ByteArray} (h : allB m s = true) : 0 < s.size ∧ s.size ≤ 48 := by
  unfold allB at h
  simp only [Bool.and_eq_true, decide_eq_true_eq] at h
  omega
theorem first_eq (s : ByteArray) (h : 0 < s.size) : mask s[0].toNat = first s := by
  unfold first
  congr 2
  have h2 : 0 < s.data.toList.length := by simpa using h
  rw [List.getD_eq_getElem?_getD, List.getElem?_eq_getElem h2]
  rfl
theorem int_ne {v : Nat} (h : ¬ v = 0) : ((v : Int) == 0) = false := by simpa using h
def err (b : Bool) : Nat := if b then 0 else 2
end La

set_option maxRecDepth 100000 in
set_option maxHeartbeats 4000000 in
theorem Check_any (A : Option Addr) (n c : Nat) (hn : n ≤ maxLen) (f : Nat → Lab) (hs : ∀ i, i < n → (f i).1.size ≤ maxLen ∧ (f i).2.size ≤ maxLen) (w : World) (hA : LabRow w A n f) :
    Calls Try.prog 32 #[.slice A n c] w fun e w' => e = .returned (.int .i64 ((La.err (La.right f n) : Nat) : Int)) ∧ Below w.heap.size w w' := by
  unfold maxLen at hn
  have HA := Lib.hid hA; have HSZ := Lib.hid hs; clear hA hs
  by_cases hr : 1 ≤ n ∧ n ≤ 6
  · obtain ⟨hn1, hn6⟩ := hr
    have d1 : decide ((n : Int) < 1) = false := by simp; omega
    have d2 : decide ((6 : Int) < (n : Int)) = false := by simp; omega
    have hz := zero_masks
    have h43 : (Try.prog.info? 94).map (·.size) = some 256 := by kernel_rfl
    have hz0 := La.cellsOf_size (La.part1 32)
    have hzm := La.cellsOf_size La.mask
    have hone := La.cellsOf_one La.mask
    go_enter Try.func32, Try.ntmps32
    go_wp2_with fail
    refine (masks_any _).mono ?_; rintro e w1 ⟨rfl, hb1⟩
    have hb2 := hb1.alloc hb1.size (.cells (La.cellsOf La.mask) 94)
    have hm2 : MaskAt (w1.alloc (.cells (La.cellsOf La.mask) 94)) w1.heap.size := heap_alloc_new _ _
    have HB2 := Lib.hid hb2; have HM2 := Lib.hid hm2; clear hb1 hb2 hm2
    go_upto_region 4 with (refine wpList_store_row rfl 94 (.tmp 3) (.tmp 14) rfl w1.heap.size (La.cellsOf La.mask) rfl rfl 94 (La.cellsOf (La.part1 32)) (heap_alloc_new w1 _) (by rw [hzm]; exact h43) (by omega) hone ?_)
    rw [setRow_alloc]
    generalize w1.alloc (.cells (La.cellsOf La.mask) 94) = w2 at *
    generalize w1.heap.size = g at *
    clear hz h43 hz0 hzm hone
    go_wp2_with fail
    go_loopw [17] (fun i wr => ∃ k : Nat, k ≤ n ∧ i = .int .i64 k ∧ (List.range k).all (La.okAt f) = true ∧ MaskAt wr g ∧ Below w.heap.size w wr) (fun i _ => n - (intOf i).toNat)
    case atStart => exact ⟨0, by omega, rfl, rfl, HM2.out, HB2.out⟩
    case round =>
      obtain ⟨k, hk, rfl, hall, hm, hb⟩ := hrel
      have HALL := Lib.hid hall; have HM := Lib.hid hm; have HB := Lib.hid hb
      clear hall hm hb
      by_cases hlt : k < n
      · obtain ⟨ad, rfl, c0, c1⟩ := HA.out.at_ HB.out hlt
        have hsz := HSZ.out k hlt
        have hok : La.okAt f k = ((La.okName (f k).1 && La.okValue (f k).2) && (decide (k = 0) || La.less (f (k - 1)).1 (f k).1)) := rfl
        have HOK := Lib.hid hok; clear hok
        have hal : Below wr.heap.size wr (wr.alloc (.cells #[.string (f k).1, .string (f k).2] 54)) := (Below.refl _ _).alloc (Nat.le_refl _) _
        have hrow : RowIs (wr.alloc (.cells #[.string (f k).1, .string (f k).2] 54)) wr.heap.size (.cells #[.string (f k).1, .string (f k).2] 54) := RowIs.one _ _
        have HBA := Lib.hid (below_step HB.out hal); have HMA := Lib.hid (HM.out.later hal); have HROW := Lib.hid hrow
        have HPREV := Lib.hid (fun (W : World) (hb : Below w.heap.size w W) (h0 : k ≠ 0) => HA.out.at_ hb (show k - 1 < n by omega))
        clear hal hrow
        obtain ⟨x, hx⟩ : ∃ x, (f k).1 = x := ⟨_, rfl⟩
        obtain ⟨y, hy⟩ : ∃ y, (f k).2 = y := ⟨_, rfl⟩
        rw [hx] at c0 HBA HMA HROW HOK hsz
        rw [hy] at c1 HBA HMA HROW HOK hsz
        obtain ⟨hsx, hsy⟩ := hsz
        have HX := Lib.hid hx; have HY := Lib.hid hy; clear hx hy
        generalize hwa : wr.alloc (.cells #[.string x, .string y] 54) = wa at *
        have hgl : wr.heap.size < wa.heap.size := by rw [← hwa]; simp
        have xa0 : wa.cell? ⟨wr.heap.size, 0, none⟩ = some (.string x) := cell_of_row _ _ _ _ _ _ HROW.out
        have ya0 : wa.cell? ⟨wr.heap.size, 1, none⟩ = some (.string y) := cell_of_row _ _ _ _ _ _ HROW.out
        by_cases q1 : La.allB 2 x = true
        · have hpos := (La.allB_pos q1).1
          go_wp2_with fail
          refine (all_any g x hsx 2 (by omega) _ HMA.out).mono ?_; rintro e w4 ⟨rfl, hb4⟩
          have HB4 := Lib.hid (below_step HBA.out hb4); have HM4 := Lib.hid (HMA.out.later hb4); have HROW4 := Lib.hid (HROW.out.keep hb4)
          clear hb4
          have x0 : w4.cell? ⟨wr.heap.size, 0, none⟩ = some (.string x) := cell_of_row _ _ _ _ _ _ HROW4.out
          have y0 : w4.cell? ⟨wr.heap.size, 1, none⟩ = some (.string y) := cell_of_row _ _ _ _ _ _ HROW4.out
          rw [q1]
          have hfst : w4.cell? ⟨g, x[0].toNat, none⟩ = some (.int .u8 (La.first x : Nat)) := by rw [HM4.out.cell, La.first_eq x hpos]
          have hand : bits BinOp.and IntKind.u8 ((La.first x : Nat) : Int) 1 = ((La.first x &&& 1 : Nat) : Int) := u8_and_nat (La.first x) 1 (La.mask_lt _) (by decide)
          have j1 : ((x[0].toNat : Nat) : Int) < 256 := by have := x[0].toNat_lt; omega
          have j0 : (0 : Int) ≤ ((x[0].toNat : Nat) : Int) := by omega
          by_cases q2 : La.first x &&& 1 = 0
          · rw [q2] at hand
            have Q1 := Lib.hid q1; have Q2 := Lib.hid q2; clear q1 q2
            generalize hfm : La.first x = fm at *
            have HFM := Lib.hid hfm; clear hfm
            go_wp2_with fail
            go_ret
            refine ⟨?_, HB4.out⟩
            have hno : La.right f n = false := La.right_no f n k hlt (by rw [HOK.out]; unfold La.okName La.okValue; simp [HFM.out, Q2.out])
            rw [hno]; rfl
          · have hne : (((La.first x &&& 1 : Nat) : Int) == 0) = false := La.int_ne q2
            have Q1 := Lib.hid q1; have Q2 := Lib.hid q2; clear q1 q2
            generalize hfm : La.first x = fm at *
            generalize hfv : fm &&& 1 = fv at *
            have HFM := Lib.hid hfm; have HFV := Lib.hid hfv; clear hfm hfv
            go_wp2_with fail
            refine (all_any g y hsy 4 (by omega) _ HM4.out).mono ?_; rintro e w5 ⟨rfl, hb5⟩
            have HB5 := Lib.hid (below_step HB4.out hb5); have HM5 := Lib.hid (HM4.out.later hb5); have HROW5 := Lib.hid (HROW4.out.keep hb5)
            clear hb5 x0 y0 hfst
            have x0 : w5.cell? ⟨wr.heap.size, 0, none⟩ = some (.string x) := cell_of_row _ _ _ _ _ _ HROW5.out
            by_cases q3 : La.allB 4 y = true
            · rw [q3]
              have Q3 := Lib.hid q3; clear q3
              by_cases k0 : k = 0
              · have hd0 : decide ((0 : Int) < (k : Int)) = false := by simp; omega
                have hd0n : decide (0 < k) = false := by simp; omega
                go_wp2_with fail
                go_quiet (fail)
                go_wp2_with fail
                go_roundw
                case rel =>
                  refine ⟨k + 1, by omega, by go_num, ?_, HM5.out, below_drewN HB5.out _⟩
                  rw [La.range_all_succ, HALL.out, HOK.out]
                  unfold La.okName La.okValue
                  rw [Q1.out, Q3.out, HFM.out]
                  have q2 := Q2.out
                  simp [HFV.out, q2, k0]
                case measure => simp [intOf]; omega
              · have hd0 : decide ((0 : Int) < (k : Int)) = true := by simp; omega
                have hd0n : decide (0 < k) = true := by simp; omega
                obtain ⟨ad', e1, p0, _⟩ := HPREV.out w5 HB5.out k0
                cases e1
                have i1 : ((k : Int) - 1).toNat = k - 1 := by omega
                have i2 : IntKind.i64.wrap ((k : Int) - 1) = (k : Int) - 1 := IntWalk.i64_in _ (by omega)
                have i3 : (1 : Int) ≤ (k : Int) := by omega
                have i4 : (k : Int) - 1 < (n : Int) := by omega
                have i5 : (0 : Int) ≤ (k : Int) - 1 := by omega
                obtain ⟨z, hz⟩ : ∃ z, (f (k - 1)).1 = z := ⟨_, rfl⟩
                rw [hz] at p0
                have HZ := Lib.hid hz; clear hz
                by_cases hl : Op.bytesLess z.toList x.toList = true
                · have hlb : (!(Op.bytesLess z.toList x.toList)) = false := by rw [hl]; rfl
                  have HL := Lib.hid hl; clear hl
                  go_wp2_with fail
                  go_quiet (fail)
                  go_wp2_with fail
                  go_roundw
                  case rel =>
                    refine ⟨k + 1, by omega, by go_num, ?_, HM5.out, below_drewN HB5.out _⟩
                    rw [La.range_all_succ, HALL.out, HOK.out]
                    unfold La.okName La.okValue
                    rw [Q1.out, Q3.out, HFM.out]
                    have q2 := Q2.out
                    simp [HFV.out, q2, La.less, HZ.out, HL.out]
                  case measure => simp [intOf]; omega
                · have hlb : (!(Op.bytesLess z.toList x.toList)) = true := by simpa using hl
                  have HL := Lib.hid hl; clear hl
                  go_wp2_with fail
                  go_quiet (fail)
                  go_wp2_with fail
                  go_ret
                  refine ⟨?_, below_drewN HB5.out _⟩
                  have hno : La.right f n = false := La.right_no f n k hlt (by rw [HOK.out, HZ.out]; unfold La.less; have hl := HL.out; simp [k0, hl])
                  rw [hno]; rfl
            · have q3' : La.allB 4 y = false := by simpa using q3
              rw [q3']
              have Q3 := Lib.hid q3'; clear q3 q3'
              go_wp2_with fail
              go_ret
              refine ⟨?_, HB5.out⟩
              have hno : La.right f n = false := La.right_no f n k hlt (by rw [HOK.out]; unfold La.okName La.okValue; simp [Q3.out])
              rw [hno]; rfl
        · have q1' : La.allB 2 x = false := by simpa using q1
          go_wp2_with fail
          refine (all_any g x hsx 2 (by omega) _ HMA.out).mono ?_; rintro e w4 ⟨rfl, hb4⟩
          have HB4 := Lib.hid (below_step HBA.out hb4); have HM4 := Lib.hid (HMA.out.later hb4); have HROW4 := Lib.hid (HROW.out.keep hb4)
          clear hb4
          have x0 : w4.cell? ⟨wr.heap.size, 0, none⟩ = some (.string x) := cell_of_row _ _ _ _ _ _ HROW4.out
          have y0 : w4.cell? ⟨wr.heap.size, 1, none⟩ = some (.string y) := cell_of_row _ _ _ _ _ _ HROW4.out
          rw [q1']
          have Q1 := Lib.hid q1'; clear q1 q1'
          go_wp2_with fail
          go_ret
          refine ⟨?_, HB4.out⟩
          have hno : La.right f n = false := La.right_no f n k hlt (by rw [HOK.out]; unfold La.okName La.okValue; simp [Q1.out])
          rw [hno]; rfl
      · obtain rfl : k = n := by omega
        go_wp2_with fail
        go_ret
        refine ⟨?_, HB.out⟩
        rw [La.right_yes f k hn1 hn6 HALL.out]; rfl
  · have hno : La.right f n = false := by unfold La.right; rw [decide_eq_false hr, Bool.false_and]
    rw [hno]
    have hd : decide ((n : Int) < 1) = true ∨ (decide ((n : Int) < 1) = false ∧ decide ((6 : Int) < (n : Int)) = true) := by
      simp only [decide_eq_true_eq, decide_eq_false_iff_not]; omega
    clear hr hno
    rcases hd with d1 | ⟨d1, d2⟩
    all_goals
      go_enter Try.func32, Try.ntmps32
      go_wp2_with fail
      go_ret
      exact ⟨rfl, Below.refl _ _⟩
end Go.Proofs.Ytaillfnmaiiapaa
/-
  What the functions of package label come to: Limit, Longest, Key, Less, Get.
-/
namespace Go.Proofs.Ytaillfnmaiiapaa
open Go.RowKit
namespace La
def limit (g : Int) : Nat := if g = 1 then 12 else if g = 2 then 24 else if g = 3 then 48 else 0
/-- the longest name or value -/
def longest (f : Nat → Lab) : Nat → Nat
  | 0 => 0
  | k + 1 => max (longest f k) (max (f k).1.size (f k).2.size)
/-- a text with its length ahead -/
def txt (b : ByteArray) : List UInt8 := (Num.smallB b.size ++ b).data.toList
/-- labels as bytes -/
def key (f : Nat → Lab) : Nat → List UInt8
  | 0 => []
  | k + 1 => key f k ++ txt (f k).1 ++ txt (f k).2
def keyB (f : Nat → Lab) (n : Nat) : ByteArray := ⟨(key f n).toArray⟩
theorem txt_length (b : ByteArray) (h : b.size ≤ 300) : (txt b).length ≤ 310 := by
  have h1 : (Num.smallB b.size).size ≤ 10 := Num.enc_length_le 9 _
  have h2 : (txt b).length = (Num.smallB b.size ++ b).size := by simp [txt]
  rw [h2, ByteArray.size_append]; omega
theorem key_length (f : Nat → Lab) : ∀ k, (∀ i, i < k → (f i).1.size ≤ 300 ∧ (f i).2.size ≤ 300) → (key f k).length ≤ k * 620
  | 0, _ => by simp [key]
  | k + 1, h => by
    have h1 := key_length f k (fun i hi => h i (by omega))
    have h2 := txt_length (f k).1 (h k (by omega)).1
    have h3 := txt_length (f k).2 (h k (by omega)).2
    simp only [key, List.length_append]; omega
/-- the value of the first one of a name -/
def get (f : Nat → Lab) (name : ByteArray) : Nat → Nat → ByteArray
  | 0, _ => ByteArray.empty
  | m + 1, i => if (f i).1 = name then (f i).2 else get f name m (i + 1)
end La

set_option maxHeartbeats 400000 in
theorem Limit_any (g : Int) (w : World) :
    Calls Try.prog 35 #[.int .i64 g] w fun e w' => e = .returned (.int .i64 ((La.limit g : Nat) : Int)) ∧ w = w' := by
  have hc : g < 1 ∨ 3 < g ∨ g = 1 ∨ g = 2 ∨ g = 3 := by omega
  rcases hc with h | h | rfl | rfl | rfl
  · have hl : La.limit g = 0 := by unfold La.limit; rw [if_neg (by omega), if_neg (by omega), if_neg (by omega)]
    rw [hl]
    have d1 : decide (g < 1) = true := by simpa using h
    clear hl h
    go_enter Try.func35, Try.ntmps35
    go_wp2_with fail
    go_ret
    exact ⟨rfl, rfl⟩
  · have hl : La.limit g = 0 := by unfold La.limit; rw [if_neg (by omega), if_neg (by omega), if_neg (by omega)]
    rw [hl]
    have d1 : decide (g < 1) = false := by simp; omega
    have d2 : decide (3 < g) = true := by simpa using h
    clear hl h
    go_enter Try.func35, Try.ntmps35
    go_wp2_with fail
    go_ret
    exact ⟨rfl, rfl⟩
  all_goals
    go_enter Try.func35, Try.ntmps35
    go_wp2_with fail
    go_ret
    exact ⟨rfl, rfl⟩

set_option maxRecDepth 100000 in
set_option maxHeartbeats 1000000 in
theorem Longest_any (A : Option Addr) (n c : Nat) (hn : n ≤ maxLen) (f : Nat → Lab) (hs : ∀ i, i < n → (f i).1.size ≤ maxLen ∧ (f i).2.size ≤ maxLen) (w : World) (hA : LabRow w A n f) :
    Calls Try.prog 34 #[.slice A n c] w fun e w' => e = .returned (.int .i64 ((La.longest f n : Nat) : Int)) ∧ Below w.heap.size w w' := by
  unfold maxLen at hn
  have HA := Lib.hid hA; have HSZ := Lib.hid hs; clear hA hs
  go_enter Try.func34, Try.ntmps34
  go_wp2_with fail
  go_loopw [3, 8] (fun v i wr => ∃ k : Nat, k ≤ n ∧ i = .int .i64 k ∧ v = .int .i64 (La.longest f k : Nat) ∧ Below w.heap.size w wr) (fun _ i _ => n - (intOf i).toNat)
  case atStart => exact ⟨0, by omega, rfl, rfl, Below.refl _ _⟩
  case round =>
    obtain ⟨k, hk, rfl, rfl, hb⟩ := hrel
    have HB := Lib.hid hb; clear hb
    by_cases hlt : k < n
    · obtain ⟨ad, rfl, c0, c1⟩ := HA.out.at_ HB.out hlt
      have hsz := HSZ.out k hlt
      have hlo : La.longest f (k + 1) = max (La.longest f k) (max (f k).1.size (f k).2.size) := rfl
      have HLO := Lib.hid hlo; clear hlo
      generalize (f k).1 = x at *
      generalize (f k).2 = y at *
      generalize La.longest f k = m at *
      have HBA := Lib.hid (HB.out.alloc HB.out.size (.cells #[.string x, .string y] 54))
      go_wp2_with fail
      all_goals
        go_roundw
        case rel => exact ⟨k + 1, by omega, by go_num, by congr 1; rw [HLO.out]; omega, HBA.out⟩
        case measure => simp [intOf]; omega
    · obtain rfl : k = n := by omega
      go_wp2_with fail
      go_ret
      exact ⟨rfl, HB.out⟩

set_option maxRecDepth 100000 in
set_option maxHeartbeats 1000000 in
theorem Key_any (A : Option Addr) (n c : Nat) (hn : n ≤ 1000) (f : Nat → Lab) (hs : ∀ i, i < n → (f i).1.size ≤ 300 ∧ (f i).2.size ≤ 300) (w : World) (hA : LabRow w A n f) :
    Calls Try.prog 96 #[.slice A n c] w fun e w' => e = .returned (.string (La.keyB f n)) ∧ Below w.heap.size w w' := by
  have HA := Lib.hid hA; have HSZ := Lib.hid hs; clear hA hs
  have hnew := BldAt.new w
  have hb0 : Below w.heap.size w (w.alloc (.cells #[.pointer none, .slice none 0 0] 119)) := (Below.refl _ _).alloc (Nat.le_refl _) _
  have HNEW := Lib.hid hnew; have HB0 := Lib.hid hb0; clear hnew hb0
  go_enter Try.func96, Try.ntmps96
  go_wp2_with fail
  go_loopw [8] (fun i wr => ∃ k : Nat, k ≤ n ∧ i = .int .i64 k ∧ BldAt wr w.heap.size w.heap.size (La.key f k) ∧ Below w.heap.size w wr) (fun i _ => n - (intOf i).toNat)
  case atStart => exact ⟨0, by omega, rfl, HNEW.out, HB0.out⟩
  case round =>
    obtain ⟨k, hk, rfl, hbl, hb⟩ := hrel
    have HB := Lib.hid hb; have HBL := Lib.hid hbl; clear hb hbl
    by_cases hlt : k < n
    · obtain ⟨ad, rfl, c0, c1⟩ := HA.out.at_ HB.out hlt
      have hsz := HSZ.out k hlt
      have hkl := La.key_length f k (fun i hi => HSZ.out i (by omega))
      have hky : La.key f (k + 1) = La.key f k ++ La.txt (f k).1 ++ La.txt (f k).2 := rfl
      have ht1 := La.txt_length (f k).1 hsz.1
      have ht2 := La.txt_length (f k).2 hsz.2
      have HKY := Lib.hid hky; clear hky
      have hT1 := Text_any (f k).1 hsz.1
      have hT2 := Text_any (f k).2 hsz.2
      have hal : Below wr.heap.size wr (wr.alloc (.cells #[.string (f k).1, .string (f k).2] 54)) := (Below.refl _ _).alloc (Nat.le_refl _) _
      have hrow : RowIs (wr.alloc (.cells #[.string (f k).1, .string (f k).2] 54)) wr.heap.size (.cells #[.string (f k).1, .string (f k).2] 54) := RowIs.one _ _
      have HBA := Lib.hid (below_step HB.out hal); have HBLA := Lib.hid (HBL.out.keep hal); have HROW := Lib.hid hrow
      clear hal hrow
      have hsum1 : (Num.smallB (f k).1.size ++ (f k).1).data.toList = La.txt (f k).1 := rfl
      have hsum2 : (Num.smallB (f k).2.size ++ (f k).2).data.toList = La.txt (f k).2 := rfl
      have hz1 : (Num.smallB (f k).1.size ++ (f k).1).size = (La.txt (f k).1).length := by simp [La.txt]
      have hz2 : (Num.smallB (f k).2.size ++ (f k).2).size = (La.txt (f k).2).length := by simp [La.txt]
      generalize Num.smallB (f k).1.size ++ (f k).1 = t1 at *
      generalize Num.smallB (f k).2.size ++ (f k).2 = t2 at *
      generalize (f k).1 = x at *
      generalize (f k).2 = y at *
      generalize La.txt x = l1 at *
      generalize La.txt y = l2 at *
      generalize La.key f k = kk at *
      have HT1 := Lib.hid hT1; have HT2 := Lib.hid hT2; have HS1 := Lib.hid hsum1; have HS2 := Lib.hid hsum2; have HZ1 := Lib.hid hz1; have HZ2 := Lib.hid hz2
      clear hT1 hT2 hsum1 hsum2 hz1 hz2
      generalize hwa : wr.alloc (.cells #[.string x, .string y] 54) = wa at *
      have xa0 : wa.cell? ⟨wr.heap.size, 0, none⟩ = some (.string x) := cell_of_row _ _ _ _ _ _ HROW.out
      go_wp2_with fail
      refine (HT1.out _).mono ?_; rintro e w4 ⟨rfl, hb4⟩
      have HB4 := Lib.hid (below_step HBA.out hb4); have HBL4 := Lib.hid (HBLA.out.keep hb4); have HROW4 := Lib.hid (HROW.out.keep hb4)
      clear hb4 xa0
      go_wp2_with fail
      refine (bldString w.heap.size w.heap.size kk t1 w4 HBL4.out (by have := HZ1.out; omega) HB4.out.size).mono ?_; rintro e w5 ⟨rfl, hl5, hb5, ho5⟩
      rw [HS1.out] at hl5
      have HB5 := Lib.hid (HB4.out.trans hb5); have HBL5 := Lib.hid hl5
      have hrow5 : RowIs w5 wr.heap.size (.cells #[.string x, .string y] 54) := ho5 _ _ _ HROW4.out (by have := HBL.out.lt; omega) (by decide)
      have HROW5 := Lib.hid hrow5
      clear hb5 hl5 hrow5 ho5
      have ya0 : w5.cell? ⟨wr.heap.size, 1, none⟩ = some (.string y) := cell_of_row _ _ _ _ _ _ HROW5.out
      go_wp2_with fail
      refine (HT2.out _).mono ?_; rintro e w6 ⟨rfl, hb6⟩
      have HB6 := Lib.hid (below_step HB5.out hb6); have HBL6 := Lib.hid (HBL5.out.keep hb6)
      clear hb6 ya0
      go_wp2_with fail
      refine (bldString w.heap.size w.heap.size (kk ++ l1) t2 w6 HBL6.out (by have := HZ2.out; rw [List.length_append]; omega) HB6.out.size).mono ?_; rintro e w7 ⟨rfl, hl7, hb7, _⟩
      rw [HS2.out] at hl7
      have HB7 := Lib.hid (HB6.out.trans hb7); have HBL7 := Lib.hid hl7
      clear hb7 hl7
      go_wp2_with fail
      go_roundw
      case rel => exact ⟨k + 1, by omega, by go_num, by rw [HKY.out]; exact HBL7.out, HB7.out⟩
      case measure => simp [intOf]; omega
    · obtain rfl : k = n := by omega
      go_wp2_with fail
      refine (bldText w.heap.size w.heap.size _ _ HBL.out HB.out.size).mono ?_; rintro e w4 ⟨rfl, hb4⟩
      have HB4 := Lib.hid (HB.out.trans hb4); clear hb4
      go_wp2_with fail
      go_ret
      exact ⟨rfl, HB4.out⟩
end Go.Proofs.Ytaillfnmaiiapaa
/-
  What the functions of package label come to: Less, Get, Same.
-/
namespace Go.Proofs.Ytaillfnmaiiapaa
open Go.RowKit

theorem run_part_str {P : Program} (w : World) (e : TypeId) (he : P.underlying e = some .string) (cs : Array Value) (j : Nat) (v : Value) (hv : cs[j]? = some v) : (part e cs j).run P w = .ok v w := by
  have hagg : (isAgg e).run P w = .ok false w := by
    unfold isAgg
    rw [Sem.run_bind, run_underlying he w]
    simp
  simp [part, Sem.run_bind, hagg, hv]
theorem lab_fields : Try.prog.underlying 54 = some (.struct (Try.prog.fieldsOf 54)) := by kernel_rfl
theorem run_equal_lab (w : World) (x y z u : ByteArray) : (Op.equalIn 10000 54 (.agg #[.string x, .string y]) (.agg #[.string z, .string u])).run Try.prog w = .ok ((x.toList == z.toList) && (y.toList == u.toList)) w := by
  rw [run_equalIn_struct w 9999 54 _ _ lab_fields (by kernel_rfl)]
  have hf : (Try.prog.fieldsOf 54).toList = [⟨"Name", 9, 0, false, "", "", 0⟩, ⟨"Value", 9, 1, false, "", "", 16⟩] := by kernel_rfl
  rw [hf]
  have hp := fun (cs : Array Value) (j : Nat) (v : Value) (hv : cs[j]? = some v) => run_part_str (P := Try.prog) w 9 Try.underlying9 cs j v hv
  have p0 := hp #[.string x, .string y] 0 (.string x) rfl
  have p1 := hp #[.string x, .string y] 1 (.string y) rfl
  have q0 := hp #[.string z, .string u] 0 (.string z) rfl
  have q1 := hp #[.string z, .string u] 1 (.string u) rfl
  have e0 := run_equalIn_string (P := Try.prog) w 9998 9 x z Try.underlying9
  have e1 := run_equalIn_string (P := Try.prog) w 9998 9 y u Try.underlying9
  simp only [Op.eqFields, ne_eq, String.reduceEq, not_false_eq_true, if_true, Sem.run_bind, p0, q0, e0, Result.andThen_ok]
  cases h0 : (x.toList == z.toList) <;> cases h1 : (y.toList == u.toList) <;> simp [Sem.run_bind, p1, q1, e1, h1]

namespace La
/-- are so many alike? -/
def same (f g : Nat → Lab) (n : Nat) : Bool := (List.range n).all (fun i => decide (f i = g i))
end La
end Go.Proofs.Ytaillfnmaiiapaa
/-
  What the functions of package label come to: Of.
-/
namespace Go.Proofs.Ytaillfnmaiiapaa
open Go.RowKit
namespace La
/-- a text of at most 48 bytes that a cursor reads: what it is, what is left, whether it failed -/
def nm (bad : Bool) (s : ByteArray) : ByteArray := Num.curV bad (Num.xOk 48 s) (if Num.xOk 48 s = true then Num.xV s else ByteArray.empty) ByteArray.empty
def nx (bad : Bool) (s : ByteArray) : ByteArray := Num.curV bad (Num.xOk 48 s) (s.extract (if Num.xOk 48 s = true then Num.xN s else 0) s.size) s
def nb (bad : Bool) (s : ByteArray) : Bool := bad || !Num.xOk 48 s
/-- the labels that a cursor reads -/
def ofLoop : Nat → List Lab → ByteArray → Bool → List Lab × ByteArray × Bool
  | 0, L, s, bad => (L, s, bad)
  | k + 1, L, s, bad => if s.size ≠ 0 ∧ bad = false then ofLoop k (L ++ [(nm false s, nm (nb false s) (nx false s))]) (nx (nb false s) (nx false s)) (nb (nb false s) (nx false s)) else (L, s, bad)
def at_ (L : List Lab) (i : Nat) : Lab := L.getD i (ByteArray.empty, ByteArray.empty)
def rightL (L : List Lab) : Bool := right (at_ L) L.length
/-- the labels that bytes are the key of -/
def of (s : ByteArray) : Option (List Lab) :=
  if (ofLoop 6 [] s false).2.1.size = 0 ∧ (ofLoop 6 [] s false).2.2 = false ∧ rightL (ofLoop 6 [] s false).1 = true then some (ofLoop 6 [] s false).1 else none
theorem nx_size (bad : Bool) (s : ByteArray) : (nx bad s).size ≤ s.size := by
  unfold nx Num.curV
  split
  · exact Nat.le_refl _
  · rw [ByteArray.size_extract]; omega
theorem nm_size (bad : Bool) (s : ByteArray) : (nm bad s).size ≤ s.size := by
  unfold nm Num.curV
  split
  · simp
  · split
    · unfold Num.xV; rw [ByteArray.size_extract]; omega
    · simp
end La
def vlen : Value → Nat
  | .slice _ n _ => n
  | _ => 0
theorem info_lab : (Try.prog.info? 54).map (fun i => (i.zero, i.size, i.bytes)) = some (some (.agg #[.string ByteArray.empty, .string ByteArray.empty]), 2, 32) := by kernel_rfl
/-- what Of, or Read, comes to -/
def LabOwn (w : World) (base : Nat) (L : List Lab) (A : Option Addr) (c : Nat) : Prop := LabRow w A L.length (La.at_ L) ∧ w.ownsRow base 54 2 (.slice A L.length c) L.length (labCells L)
def Labs (o : Option (List Lab)) (w : World) (e : Ending) (w' : World) : Prop :=
  (∃ L A c, o = some L ∧ e = .returned (.tuple #[.slice A L.length c, .bool true]) ∧ (A = none → L.length = 0 ∧ c = 0) ∧ L.length ≤ c ∧ LabOwn w' (w.heap.size + 1) L A c ∧ Below w.heap.size w w') ∨
  (o = none ∧ e = .returned (.tuple #[.slice none 0 0, .bool false]) ∧ Below w.heap.size w w')

theorem cell_two_new (w : World) (a b : Value) (T : TypeId) : ∀ j u, [a, b][j]? = some u → (w.alloc (.cells #[a, b] T)).cell? ((⟨w.heap.size, 0, none⟩ : Addr).add j) = some u := by
  intro j u hu
  rw [Addr.add_lit, Nat.zero_add, cell_of_row _ _ _ _ _ _ (heap_alloc_new w _)]
  rw [← hu]; simp
theorem curText48 (b : Nat) (s : ByteArray) (hs : s.size ≤ maxLen) (bad : Bool) (w : World) (hc : CurAt b s bad w) :
    Calls Try.prog 97 #[.pointer (some ⟨b, 0, none⟩), .int .i64 48] w fun e w' => e = .returned (.string (La.nm bad s)) ∧ CurAt b (La.nx bad s) (La.nb bad s) w' ∧ w.grownBy w' (some b) :=
  curText b s hs bad 48 (Lib.hid (by omega)) w hc

set_option maxRecDepth 100000 in
set_option maxHeartbeats 2000000 in
theorem lOf_any (s : ByteArray) (hs : s.size ≤ maxLen) (w : World) :
    Calls Try.prog 98 #[.string s] w (Labs (La.of s) w) := by
  obtain ⟨i0, hi0, hz0, hz1, hz2⟩ := info_parts info_lab
  have HS := Lib.hid hs; clear hs
  have hc0 : CurAt w.heap.size s false (w.alloc (.cells #[.string s, .bool false] 131)) := heap_alloc_new _ _
  have hb0 : Below w.heap.size w (w.alloc (.cells #[.string s, .bool false] 131)) := (Below.refl _ _).alloc (Nat.le_refl _) _
  have hz0' : w.heap.size + 1 ≤ (w.alloc (.cells #[.string s, .bool false] 131)).heap.size := by simp
  generalize hR : La.ofLoop 6 [] s false = R
  have HR := Lib.hid hR; have HC0 := Lib.hid hc0; have HB0 := Lib.hid hb0; have HZ0 := Lib.hid hz0'; clear hR hc0 hb0 hz0'
  go_enter Try.func98, Try.ntmps98
  go_wp2_with fail
  go_loopw [5] (fun v wr => ∃ (L : List Lab) (t : ByteArray) (bad : Bool), wr.ownsRow (w.heap.size + 1) 54 2 v L.length (labCells L) ∧ CurAt w.heap.size t bad wr ∧ La.ofLoop (6 - L.length) L t bad = R ∧ L.length ≤ 6 ∧ t.size ≤ s.size ∧ (∀ i, i < L.length → (La.at_ L i).1.size ≤ s.size ∧ (La.at_ L i).2.size ≤ s.size) ∧ Below w.heap.size w wr ∧ w.heap.size + 1 ≤ wr.heap.size) (fun v _ => 6 - vlen v)
  case atStart => exact ⟨[], s, false, World.ownsRow_nil _ _ _ _, HC0.out, HR.out, by simp, Nat.le_refl _, (fun i hi => by simp at hi), HB0.out, HZ0.out⟩
  case round =>
    obtain ⟨L, t, bad, hown, hcur, hof, hl6, hts, hel, hb, hsz⟩ := hrel
    have HOWN := Lib.hid hown; have HCUR := Lib.hid hcur; have HOF := Lib.hid hof; have HTS := Lib.hid hts; have HEL := Lib.hid hel; have HB := Lib.hid hb
    obtain ⟨A, c, rfl, hAn, hlc, hrow⟩ := own_lab hown
    have HAN := Lib.hid hAn; have HROW := Lib.hid hrow
    obtain ⟨c0, c1, -, -⟩ := hcur.cells
    clear hown hcur hof hts hel hb hAn hrow
    have hem := La.isEmpty_eq t
    by_cases hgo : t.size ≠ 0 ∧ bad = false ∧ L.length < 6
    · obtain ⟨h1, rfl, h3⟩ := hgo
      have he : t.toList.isEmpty = false := by rw [hem]; simpa using h1
      have hstep : La.ofLoop (6 - L.length) L t false = La.ofLoop (6 - (L.length + 1)) (L ++ [(La.nm false t, La.nm (La.nb false t) (La.nx false t))]) (La.nx (La.nb false t) (La.nx false t)) (La.nb (La.nb false t) (La.nx false t)) := by
        rw [show 6 - L.length = (6 - (L.length + 1)) + 1 from by omega, La.ofLoop, if_pos ⟨h1, rfl⟩]
      rw [HOF.out] at hstep
      have HST := Lib.hid hstep
      have hx1 := La.nm_size false t
      have hx2 := La.nx_size false t
      have hx3 := La.nm_size (La.nb false t) (La.nx false t)
      have hx4 := La.nx_size (La.nb false t) (La.nx false t)
      have H1 := Lib.hid h1; clear h1 hem hstep
      generalize hn1 : La.nm false t = n1 at *
      generalize ht1 : La.nx false t = t1 at *
      generalize hb1 : La.nb false t = b1 at *
      generalize hn2 : La.nm b1 t1 = n2 at *
      generalize ht2 : La.nx b1 t1 = t2 at *
      generalize hb2 : La.nb b1 t1 = b2 at *
      have hk1 := fun W hc => curText48 w.heap.size t (by have := HTS.out; have := HS.out; omega) false W hc
      rw [hn1, ht1, hb1] at hk1
      have hk2 := fun W hc => curText48 w.heap.size t1 (by have := HTS.out; have := HS.out; omega) b1 W hc
      rw [hn2, ht2, hb2] at hk2
      have HK1 := Lib.hid hk1; have HK2 := Lib.hid hk2
      clear hk1 hk2 hn1 ht1 hb1 hn2 ht2 hb2
      have hl6' : L.length < 6 := h3
      go_wp2_with fail
      refine (HK1.out _ HCUR.out).mono ?_; rintro e w3 ⟨rfl, hcur3, hg3⟩
      have HOWN3 := Lib.hid (HOWN.out.kept hg3 (by cases hv : (Value.slice A L.length c).ownBlock with
        | none => exact .inl rfl
        | some k => exact .inr (fun e => by have := (HOWN.out.lt k hv).1; cases e; omega)))
      have HB3 := Lib.hid (HB.out.grown hg3 HB.out.size (fun r e => by cases e; exact Nat.le_refl _))
      have HC3 := Lib.hid hcur3
      have HZ3 := Lib.hid (Nat.le_trans hsz hg3.size)
      clear hcur3 hg3 c0 c1
      go_wp2_with fail
      refine (HK2.out _ HC3.out).mono ?_; rintro e w4 ⟨rfl, hcur4, hg4⟩
      have hown4 := HOWN3.out.kept hg4 (by cases hv : (Value.slice A L.length c).ownBlock with
        | none => exact .inl rfl
        | some k => exact .inr (fun e => by have := (HOWN3.out.lt k hv).1; cases e; omega))
      have HB4 := Lib.hid (HB3.out.grown hg4 HB3.out.size (fun r e => by cases e; exact Nat.le_refl _))
      have HC4 := Lib.hid hcur4
      have HZ4 := Lib.hid (Nat.le_trans HZ3.out hg4.size)
      have HOWN4 := Lib.hid hown4
      have hb1' : L.length + 1 ≤ maxLen := by unfold maxLen; omega
      have hb2' : (L.length + 1) * 32 ≤ 140737488355328 := by omega
      have hb3' : w.heap.size + 1 ≤ (w4.alloc (.cells #[.string n1, .string n2] 54)).heap.size := by have := HZ4.out; simp; omega
      have B1 := Lib.hid hb1'; have B2 := Lib.hid hb2'; have B3 := Lib.hid hb3'
      clear hcur4 hg4 hown4 hb1' hb2' hb3'
      go_wp2_with (at_builtin; (refine wpList_append_own _ rfl _ _ 49 rfl (w.heap.size + 1) 54 i0 (.agg #[.string ByteArray.empty, .string ByteArray.empty]) 2 32 Try.underlying49 hi0 hz0 hz1 hz2 rfl (by decide) _ _ _ rfl (HOWN4.out.alloc _) ⟨w4.heap.size, 0, none⟩ 1 1 [.string n1, .string n2] rfl rfl (cell_two_new _ _ _ _) (by simp [Value.oneCell']) B1.out B2.out B3.out ?_); intro v5 w5 hown5 hgr5 _; have HOWN5 := Lib.hid hown5; have HG5 := Lib.hid hgr5; clear hown5 hgr5)
      go_roundw
      case rel =>
        have hg5 := HG5.out
        have hcl : ∀ k, k < w.heap.size + 1 → w5.heap[k]? = w4.heap[k]? := fun k hk => (hg5.block k (by have := HZ4.out; simp; omega) (fun e => by have := (HOWN4.out.lt k e.symm).1; omega)).trans (Below.heap_alloc w4 _ k (by have := HZ4.out; omega))
        refine ⟨L ++ [(n1, n2)], t2, b2, ?_, (hcl _ (by omega)).trans HC4.out, ?_, by simp; omega, by have := HTS.out; omega, ?_, ?_, ?_⟩
        · rw [labCells_append, List.length_append]; exact HOWN5.out
        · rw [List.length_append]; exact HST.out.symm
        · intro i hi
          rw [List.length_append, List.length_singleton] at hi
          unfold La.at_
          rcases Nat.lt_or_ge i L.length with h | h
          · have := HEL.out i h
            unfold La.at_ at this
            simpa [List.getD, List.getElem?_append_left h] using this
          · rw [show i = L.length from by omega]
            simp only [List.getD, List.getElem?_append_right (Nat.le_refl _), Nat.sub_self, List.getElem?_cons_zero, Option.getD_some]
            have := HTS.out
            exact ⟨by omega, by omega⟩
        · exact (HB4.out.alloc HB4.out.size _).grown hg5 (by have := HB4.out.size; simp; omega) (fun b hv => by have := (HOWN4.out.lt b hv).1; omega)
        · have q1 := hg5.size; have q2 := HZ4.out; simp at q1; omega
      case measure => 
        obtain ⟨g5, c5, rfl⟩ := ownsRow_succ HOWN5.out
        simp [vlen]; omega
    · have hfin : La.ofLoop (6 - L.length) L t bad = (L, t, bad) := by
        rcases Nat.lt_or_ge L.length 6 with h | h
        · rw [show 6 - L.length = (5 - L.length) + 1 from by omega, La.ofLoop, if_neg (fun e => hgo ⟨e.1, e.2, h⟩)]
        · rw [show 6 - L.length = 0 from by omega]; rfl
      rw [HOF.out] at hfin
      have hofs : La.of s = if t.size = 0 ∧ bad = false ∧ La.rightL L = true then some L else none := by
        unfold La.of
        rw [HR.out, hfin]
      have HOFS := Lib.hid hofs; clear hfin hofs
      have hway : (t.toList.isEmpty = true) ∨ (t.toList.isEmpty = false ∧ bad = true) ∨ (t.toList.isEmpty = false ∧ bad = false ∧ L.length = 6) := by
        rw [hem]
        by_cases h1 : t.size = 0
        · left; simpa using h1
        · right
          cases bad
          · right
            refine ⟨by simpa using h1, rfl, ?_⟩
            rcases Nat.lt_or_ge L.length 6 with h | h
            · exact absurd ⟨h1, rfl, h⟩ hgo
            · omega
          · left; exact ⟨by simpa using h1, rfl⟩
      have HEM := Lib.hid hem; clear hem hgo
      have hck := fun W (hW : Below wr.heap.size wr W) => Check_any A L.length c (by unfold maxLen; omega) (La.at_ L) (fun i hi => by have := HEL.out i hi; have := HS.out; exact ⟨by omega, by omega⟩) W (HROW.out.later hW)
      have HCK := Lib.hid hck; clear hck
      have hno : (t.toList.isEmpty = false ∨ bad = true) → La.of s = none := fun h => by
        rw [HOFS.out, if_neg]
        rintro ⟨e1, e2, _⟩
        rcases h with h | h
        · rw [HEM.out, e1] at h; simp at h
        · rw [h] at e2; cases e2
      have HNO := Lib.hid hno; clear hno
      rcases hway with he | ⟨he, rfl⟩ | ⟨he, rfl, hL⟩
      · cases bad
        · have ht0 : t.size = 0 := by have h := he; rw [HEM.out] at h; simpa using h
          have HT0 := Lib.hid ht0; clear ht0
          go_wp2_with fail
          refine (curDone w.heap.size t false _ HCUR.out).mono ?_; rintro e w4 ⟨rfl, hb4⟩
          have HB4 := Lib.hid (below_step HB.out hb4); have HR4 : Hid (LabOwn w4 (w.heap.size + 1) L A c) := Lib.hid ⟨HROW.out.later hb4, HOWN.out.kept (grown_of_below (row := none) hb4) (by cases hv : (Value.slice A L.length c).ownBlock <;> simp)⟩
          rw [he]
          go_wp2_with fail
          refine (HCK.out _ hb4).mono ?_; rintro e w5 ⟨rfl, hb5⟩
          have HB5 := Lib.hid (below_step HB4.out hb5); have HR5 : Hid (LabOwn w5 (w.heap.size + 1) L A c) := Lib.hid ⟨HR4.out.1.later hb5, HR4.out.2.kept (grown_of_below (row := none) hb5) (by cases hv : (Value.slice A L.length c).ownBlock <;> simp)⟩
          clear hb4 hb5
          cases hrl : La.right (La.at_ L) L.length
          · have e9 : (((La.err false : Nat) : Int) != 0) = true := by decide
            go_wp2_with fail
            go_ret2
            right
            refine ⟨?_, by first | rfl | trivial, HB5.out⟩
            rw [HOFS.out, if_neg]
            rintro ⟨_, _, e3⟩
            unfold La.rightL at e3
            rw [hrl] at e3; cases e3
          · have e9 : (((La.err true : Nat) : Int) != 0) = false := by decide
            go_wp2_with fail
            go_ret2
            left
            refine ⟨L, A, c, ?_, rfl, HAN.out, hlc, HR5.out, HB5.out⟩
            rw [HOFS.out, if_pos]
            exact ⟨HT0.out, by first | rfl | trivial, hrl⟩
        · go_wp2_with fail
          refine (curDone w.heap.size t true _ HCUR.out).mono ?_; rintro e w4 ⟨rfl, hb4⟩
          have HB4 := Lib.hid (below_step HB.out hb4); clear hb4
          rw [he]
          go_wp2_with fail
          go_ret2
          right
          exact ⟨HNO.out (by first | exact .inr rfl | exact .inr trivial), by first | rfl | trivial, HB4.out⟩
      · go_wp2_with fail
        refine (curDone w.heap.size t true _ HCUR.out).mono ?_; rintro e w4 ⟨rfl, hb4⟩
        have HB4 := Lib.hid (below_step HB.out hb4); clear hb4
        rw [he]
        go_wp2_with fail
        go_ret2
        right
        exact ⟨HNO.out (.inl he), by first | rfl | trivial, HB4.out⟩
      · go_wp2_with fail
        refine (curDone w.heap.size t false _ HCUR.out).mono ?_; rintro e w4 ⟨rfl, hb4⟩
        have HB4 := Lib.hid (below_step HB.out hb4); clear hb4
        rw [he]
        go_wp2_with fail
        go_ret2
        right
        exact ⟨HNO.out (.inl he), by first | rfl | trivial, HB4.out⟩
end Go.Proofs.Ytaillfnmaiiapaa
/-
  What the functions of package label come to: Show.
-/
namespace Go.Proofs.Ytaillfnmaiiapaa
open Go.RowKit
namespace La
/-- a value as it is shown -/
def esc (l : List UInt8) : List UInt8 := l.flatMap fun c => if c = 34 ∨ c = 92 then [92, c] else [c]
theorem esc_snoc (l : List UInt8) (c : UInt8) : esc (l ++ [c]) = esc l ++ (if c = 34 ∨ c = 92 then [92, c] else [c]) := by simp [esc]
theorem esc_length (l : List UInt8) : (esc l).length ≤ 2 * l.length := by
  induction l with
  | nil => simp [esc]
  | cons c l ih =>
    have e : esc (c :: l) = (if c = 34 ∨ c = 92 then [92, c] else [c]) ++ esc l := rfl
    have h : (if c = 34 ∨ c = 92 then [92, c] else [c] : List UInt8).length ≤ 2 := by split <;> simp
    rw [e, List.length_append, List.length_cons]
    omega
/-- labels as they are shown, but for the end -/
def shown (f : Nat → Lab) : Nat → List UInt8
  | 0 => [123]
  | k + 1 => shown f k ++ (if k = 0 then [] else [44]) ++ (f k).1.data.toList ++ [61, 34] ++ esc (f k).2.data.toList ++ [34]
def showB (f : Nat → Lab) (n : Nat) : ByteArray := ⟨(shown f n ++ [125]).toArray⟩
theorem shown_length (f : Nat → Lab) : ∀ k, (∀ i, i < k → (f i).1.size ≤ 300 ∧ (f i).2.size ≤ 300) → (shown f k).length ≤ 1 + k * 1000
  | 0, _ => by simp [shown]
  | k + 1, h => by
    have h1 := shown_length f k (fun i hi => h i (by omega))
    have h2 := h k (by omega)
    have h3 := esc_length (f k).2.data.toList
    have h4 : (f k).1.data.toList.length = (f k).1.size := by simp
    have h5 : (f k).2.data.toList.length = (f k).2.size := by simp
    have h6 : (if k = 0 then [] else [44] : List UInt8).length ≤ 1 := by split <;> simp
    simp only [shown, List.length_append, List.length_cons, List.length_nil]
    omega
theorem take_byte (s : ByteArray) (k : Nat) (h : k < s.size) : s.data.toList.take (k + 1) = s.data.toList.take k ++ [s[k]] := by
  rw [List.take_succ_eq_append_getElem (by simpa using h)]; rfl
end La

end Go.Proofs.Ytaillfnmaiiapaa
/-
  What the functions of package label come to: Read.
-/
namespace Go.Proofs.Ytaillfnmaiiapaa
open Go.RowKit
namespace La
theorem size_mk (l : List UInt8) : (⟨l.toArray⟩ : ByteArray).size = l.length := by rw [Lib.size_eq]
theorem right_sizes (L : List Lab) (h : rightL L = true) : L.length ≤ 6 ∧ ∀ i, i < L.length → (at_ L i).1.size ≤ 300 ∧ (at_ L i).2.size ≤ 300 := by
  unfold rightL right at h
  rw [Bool.and_eq_true, decide_eq_true_eq] at h
  refine ⟨h.1.2, fun i hi => ?_⟩
  have := List.all_eq_true.1 h.2 i (List.mem_range.2 hi)
  unfold okAt okName okValue at this
  simp only [Bool.and_eq_true] at this
  obtain ⟨⟨⟨h1, _⟩, h2⟩, _⟩ := this
  have := allB_pos h1; have := allB_pos h2
  omega
end La
theorem info_u8' : (Try.prog.info? 5).map (fun i => (i.zero, i.size, i.bytes)) = some (some (.int .u8 0), 1, 1) := by kernel_rfl

end Go.Proofs.Ytaillfnmaiiapaa
