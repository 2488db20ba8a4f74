/-
  What the functions of package label come to: masks, all.
-/
import Derived.Test.YtcdlkiephdghlaaArr
import Derived.Deep.DeepMust
namespace Go.Proofs.Ytcdlkiephdghlaa
open Go.RowKit
namespace La
/-- what a byte may be -/
def mask (b : Nat) : Nat := if 97 ≤ b ∧ b ≤ 122 then 7 else if b = 95 then 7 else if 48 ≤ b ∧ b ≤ 57 then 6 else if 32 ≤ b ∧ b ≤ 126 then 4 else 0
/-- between the loops -/
def part1 (k b : Nat) : Nat := if 32 ≤ b ∧ b < k then 4 else 0
def part2 (k b : Nat) : Nat := part1 127 b + if 97 ≤ b ∧ b < k then 3 else 0
def part3 (k b : Nat) : Nat := part2 123 b + if 48 ≤ b ∧ b < k then 2 else 0
def cellsOf (f : Nat → Nat) : Array Value := (List.map (fun i : Nat => Value.int .u8 (f i : Nat)) (List.range 256)).toArray
theorem cellsOf_size (f : Nat → Nat) : (cellsOf f).size = 256 := by simp [cellsOf]
theorem cellsOf_get (f : Nat → Nat) (i : Nat) (h : i < 256) : (cellsOf f)[i]? = some (.int .u8 (f i : Nat)) := by simp [cellsOf, h]
theorem cellsOf_one (f : Nat → Nat) : (cellsOf f).all (·.oneCell') = true := by
  simp [cellsOf, Value.oneCell']
theorem cellsOf_eq (f g : Nat → Nat) (h : ∀ i, i < 256 → f i = g i) : cellsOf f = cellsOf g := by
  unfold cellsOf
  congr 1
  apply List.map_congr_left
  intro i hi
  rw [h i (List.mem_range.1 hi)]
theorem cellsOf_set (f g : Nat → Nat) (k v : Nat) (hk : k < 256) (hv : g k = v) (h : ∀ i, i < 256 → i ≠ k → f i = g i) : (cellsOf f).setIfInBounds k (.int .u8 (v : Nat)) = cellsOf g := by
  apply Array.ext_getElem?
  intro i
  rw [Array.getElem?_setIfInBounds]
  by_cases hi : i < 256
  · rw [cellsOf_get _ _ hi, cellsOf_get _ _ hi, cellsOf_size]
    by_cases e : k = i
    · subst e; simp [hk, hv]
    · rw [if_neg e, h i hi (fun e2 => e e2.symm)]
  · have h1 : (cellsOf f)[i]? = none := by simp [cellsOf_size]; omega
    have h2 : (cellsOf g)[i]? = none := by simp [cellsOf_size]; omega
    rw [h1, h2, cellsOf_size, if_neg (by omega)]
theorem zero_cells : cellsOf (part1 32) = (List.replicate 256 (Value.int .u8 0)).toArray := by kernel_rfl
theorem last_part : ∀ i : Fin 256, i.val ≠ 95 → part3 58 i.val = mask i.val := by decide +kernel
theorem last_cells : (cellsOf (part3 58)).setIfInBounds 95 (.int .u8 7) = cellsOf mask :=
  cellsOf_set (part3 58) mask 95 7 (by decide) (by decide) (fun i hi hne => last_part ⟨i, hi⟩ hne)
theorem step1 (k : Nat) (h1 : 32 ≤ k) (h2 : k ≤ 126) : (cellsOf (part1 k)).setIfInBounds k (.int .u8 4) = cellsOf (part1 (k + 1)) :=
  cellsOf_set (part1 k) (part1 (k + 1)) k 4 (by omega) (by unfold part1; rw [if_pos (by omega)]) (fun i _ hne => by
    unfold part1
    by_cases h : 32 ≤ i ∧ i < k
    · rw [if_pos h, if_pos (by omega)]
    · rw [if_neg h, if_neg (by omega)])
theorem step2 (k : Nat) (h2 : k ≤ 122) : (cellsOf (part2 k)).setIfInBounds k (.int .u8 (part2 (k + 1) k : Nat)) = cellsOf (part2 (k + 1)) :=
  cellsOf_set (part2 k) (part2 (k + 1)) k _ (by omega) rfl (fun i _ hne => by
    unfold part2
    congr 1
    by_cases h : 97 ≤ i ∧ i < k
    · rw [if_pos h, if_pos (by omega)]
    · rw [if_neg h, if_neg (by omega)])
theorem step3 (k : Nat) (h2 : k ≤ 57) : (cellsOf (part3 k)).setIfInBounds k (.int .u8 (part3 (k + 1) k : Nat)) = cellsOf (part3 (k + 1)) :=
  cellsOf_set (part3 k) (part3 (k + 1)) k _ (by omega) rfl (fun i _ hne => by
    unfold part3
    congr 1
    by_cases h : 48 ≤ i ∧ i < k
    · rw [if_pos h, if_pos (by omega)]
    · rw [if_neg h, if_neg (by omega)])
theorem start2 : cellsOf (part1 127) = cellsOf (part2 97) := cellsOf_eq _ _ (fun i _ => by unfold part2; rw [if_neg (by omega)]; rfl)
theorem start3 : cellsOf (part2 123) = cellsOf (part3 48) := cellsOf_eq _ _ (fun i _ => by unfold part3; rw [if_neg (by omega)]; rfl)
theorem or3 : ∀ k : Fin 256, 97 ≤ k.val → k.val ≤ 122 → bits BinOp.or IntKind.u8 ((part2 k.val k.val : Nat) : Int) 3 = ((part2 (k.val + 1) k.val : Nat) : Int) := by decide +kernel
theorem or2 : ∀ k : Fin 256, 48 ≤ k.val → k.val ≤ 57 → bits BinOp.or IntKind.u8 ((part3 k.val k.val : Nat) : Int) 2 = ((part3 (k.val + 1) k.val : Nat) : Int) := by decide +kernel
end La
theorem grown_setRow (w : World) (g : Nat) (cs : Array Value) : w.grownBy (w.setRow g cs) (some g) :=
  ⟨rfl, rfl, rfl, by simp, fun k _ hne => setRow_other w g k cs (fun e => hne (by rw [e]))⟩
theorem zero_masks (w : World) : (zeroValue 71).run Try.prog w = .ok (.agg (La.cellsOf (La.part1 32))) w := by
  rw [La.zero_cells]; kernel_rfl

set_option maxRecDepth 100000 in
set_option maxHeartbeats 1000000 in
theorem masks_any (w : World) :
    Calls Try.prog 54 #[] w fun e w' => e = .returned (.agg (La.cellsOf La.mask)) ∧ Below w.heap.size w w' := by
  have hz := zero_masks
  have HZ := Lib.hid (La.cellsOf_size)
  go_enter Try.func54, Try.ntmps54
  go_wp2_with fail
  go_loopw [2] (fun v wr => ∃ k : Nat, 32 ≤ k ∧ k ≤ 127 ∧ v = .int .u8 k ∧ wr = (w.alloc (.cells (La.cellsOf (La.part1 32)) 71)).alloc (.cells (La.cellsOf (La.part1 k)) 71)) (fun v _ => 127 - (intOf v).toNat)
  case atStart => exact ⟨32, by omega, by omega, rfl, rfl⟩
  case round =>
    obtain ⟨k, hk1, hk2, rfl, rfl⟩ := hrel
    by_cases h : k ≤ 126
    · have hg := La.cellsOf_get (La.part1 k) k (by omega)
      have HS := Lib.hid (La.step1 k hk1 h)
      have hzz := La.cellsOf_size (La.part1 k)
      generalize Value.int .u8 ((La.part1 k k : Nat) : Int) = v0 at hg
      generalize hc : La.cellsOf (La.part1 k) = ck at *
      have HC := Lib.hid hc; clear hc
      go_wp2_with fail
      go_roundw
      case rel => exact ⟨k + 1, by omega, by omega, by go_num, by rw [HS.out]⟩
      case measure => simp [intOf]; omega
    · obtain rfl : k = 127 := by omega
      rw [La.start2]
      go_wp2_with fail
      go_loopw [3] (fun v wr => ∃ k : Nat, 97 ≤ k ∧ k ≤ 123 ∧ v = .int .u8 k ∧ wr = (w.alloc (.cells (La.cellsOf (La.part1 32)) 71)).alloc (.cells (La.cellsOf (La.part2 k)) 71)) (fun v _ => 123 - (intOf v).toNat)
      case atStart => exact ⟨97, by omega, by omega, rfl, rfl⟩
      case round =>
        obtain ⟨k, hk3, hk4, rfl, rfl⟩ := hrel
        by_cases h : k ≤ 122
        · have hg := La.cellsOf_get (La.part2 k) k (by omega)
          have HS := Lib.hid (La.step2 k h)
          have hzz := La.cellsOf_size (La.part2 k)
          have hor := La.or3 ⟨k, by omega⟩ hk3 h
          simp only at hor
          generalize La.part2 k k = a0 at *
          generalize La.part2 (k + 1) k = a1 at *
          generalize hc : La.cellsOf (La.part2 k) = ck at *
          have HC := Lib.hid hc; clear hc
          go_wp2_with fail
          go_roundw
          case rel => exact ⟨k + 1, by omega, by omega, by go_num, by rw [HS.out]⟩
          case measure => simp [intOf]; omega
        · obtain rfl : k = 123 := by omega
          rw [La.start3]
          go_wp2_with fail
          go_loopw [4] (fun v wr => ∃ k : Nat, 48 ≤ k ∧ k ≤ 58 ∧ v = .int .u8 k ∧ wr = (w.alloc (.cells (La.cellsOf (La.part1 32)) 71)).alloc (.cells (La.cellsOf (La.part3 k)) 71)) (fun v _ => 58 - (intOf v).toNat)
          case atStart => exact ⟨48, by omega, by omega, rfl, rfl⟩
          case round =>
            obtain ⟨k, hk5, hk6, rfl, rfl⟩ := hrel
            by_cases h : k ≤ 57
            · have hg := La.cellsOf_get (La.part3 k) k (by omega)
              have HS := Lib.hid (La.step3 k h)
              have hzz := La.cellsOf_size (La.part3 k)
              have hor := La.or2 ⟨k, by omega⟩ hk5 h
              simp only at hor
              generalize La.part3 k k = a0 at *
              generalize La.part3 (k + 1) k = a1 at *
              generalize hc : La.cellsOf (La.part3 k) = ck at *
              have HC := Lib.hid hc; clear hc
              go_wp2_with fail
              go_roundw
              case rel => exact ⟨k + 1, by omega, by omega, by go_num, by rw [HS.out]⟩
              case measure => simp [intOf]; omega
            · obtain rfl : k = 58 := by omega
              have hg := La.cellsOf_get (La.part3 58) 95 (by omega)
              have hzz := La.cellsOf_size (La.part3 58)
              have hor : bits BinOp.or IntKind.u8 ((La.part3 58 95 : Nat) : Int) 3 = 7 := by decide +kernel
              have HS := Lib.hid La.last_cells
              generalize La.part3 58 95 = a0 at *
              generalize hc : La.cellsOf (La.part3 58) = ck at *
              have HC := Lib.hid hc; clear hc
              have hg2 : ck[95]'(by omega) = .int .u8 (a0 : Int) := (Array.getElem?_eq_some_iff.1 hg).2
              have hz0 := La.cellsOf_size (La.part1 32)
              have hzm := La.cellsOf_size La.mask
              have h43 : (Try.prog.info? 71).map (·.size) = some 256 := by kernel_rfl
              have hone := La.cellsOf_one La.mask
              generalize hc0 : La.cellsOf (La.part1 32) = c0 at *
              have HC0 := Lib.hid hc0; clear hc0
              generalize hcm : La.cellsOf La.mask = cm at *
              have HCM := Lib.hid hcm; clear hcm
              go_wp2_with (first
                | (refine wpList_load_row rfl 71 (.tmp 1) rfl (w.heap.size + 1) rfl 71 cm (0, 0) _ (by rw [← HS.out]; exact heap_alloc2_new w _ _) Try.underlying71 rfl (by rw [hzm]; exact h43) ?_)
                | (refine wpList_store_row rfl 71 (.tmp 0) (.tmp 33) rfl w.heap.size cm rfl rfl 71 c0 (heap_alloc2_old w _ _) (by rw [hzm]; exact h43) (by omega) hone ?_))
              have hb9 := ((Below.refl w.heap.size w).alloc (Nat.le_refl _) (.cells c0 71)).alloc (by simp) (.cells (ck.setIfInBounds 95 (.int .u8 7)) 71)
              refine bodyPost_ret (v := .agg cm) ?_ rfl ⟨by rw [HCM.out], hb9.grown (grown_setRow _ w.heap.size cm) hb9.size (fun r e => by cases e; exact Nat.le_refl _)⟩
              exact results_cell_row rfl _ _ w.heap.size 71 cm (0, 0) _ rfl (setRow_heap _ _ c0 cm _ _ (heap_alloc2_old w _ _)) Try.underlying71 rfl (by rw [hzm]; exact h43)

namespace La
/-- the mask at work: all bytes of s may be so -/
def allB (m : Nat) (s : ByteArray) : Bool := s.data.toList.all (fun b => decide ((mask b.toNat) &&& m ≠ 0)) && (decide (s.size ≠ 0) && decide (s.size ≤ 48))
theorem isEmpty_eq (s : ByteArray) : s.toList.isEmpty = decide (s.size = 0) := by
  rw [ByteArray.toList_eq]
  have h : s.data.toList.length = s.size := by simp
  cases hl : s.data.toList with
  | nil => rw [hl] at h; simp at h; simp [← h]
  | cons a l =>
    rw [hl, List.length_cons] at h
    rw [List.isEmpty_cons]
    exact (decide_eq_false (by omega)).symm
theorem mask_lt (b : Nat) : mask b < 256 := by unfold mask; (repeat' split) <;> decide
end La
/-- the table at block g -/
def MaskAt (W : World) (g : Nat) : Prop := W.heap[g]? = some (.cells (La.cellsOf La.mask) 71 (0, 0))
theorem MaskAt.later {W W2 : World} {g : Nat} (h : MaskAt W g) (hb : Below W.heap.size W W2) : MaskAt W2 g := heap_keep h hb
theorem MaskAt.cell {W : World} {g : Nat} (h : MaskAt W g) (b : UInt8) : W.cell? ⟨g, b.toNat, none⟩ = some (.int .u8 (La.mask b.toNat : Nat)) := by
  rw [cell_of_row _ _ _ _ _ _ h, La.cellsOf_get _ _ b.toNat_lt]

set_option maxRecDepth 100000 in
set_option maxHeartbeats 1000000 in
theorem all_any (g : Nat) (s : ByteArray) (hs : s.size ≤ maxLen) (m : Nat) (hm : m < 256) (w : World) (hg : MaskAt w g) :
    Calls Try.prog 55 #[.pointer (some ⟨g, 0, none⟩), .string s, .int .u8 m] w fun e w' => e = .returned (.bool (La.allB m s)) ∧ Below w.heap.size w w' := by
  unfold maxLen at hs
  have hall : La.allB m s = (s.data.toList.all (fun b => decide ((La.mask b.toNat) &&& m ≠ 0)) && (decide (s.size ≠ 0) && decide (s.size ≤ 48))) := rfl
  generalize La.allB m s = r at *
  have HR := Lib.hid hall; have HG := Lib.hid hg
  clear hall hg
  go_enter Try.func55, Try.ntmps55
  go_wp2_with fail
  go_loopw [10] (fun i wr => ∃ k : Nat, k ≤ s.size ∧ i = .int .i64 k ∧ (s.data.toList.take k).all (fun b => decide ((La.mask b.toNat) &&& m ≠ 0)) = true ∧ Below w.heap.size w wr) (fun i _ => s.size - (intOf i).toNat)
  case atStart => exact ⟨0, by omega, rfl, rfl, Below.refl _ _⟩
  case round =>
    obtain ⟨k, hk, rfl, ha, hb⟩ := hrel
    have HA := Lib.hid ha; have HB := Lib.hid hb; clear ha hb
    by_cases hlt : k < s.size
    · have hsn : s.data.toList.take (k + 1) = s.data.toList.take k ++ [s[k]] := by
        rw [List.take_succ_eq_append_getElem (by simpa using hlt)]; rfl
      have HSN := Lib.hid hsn; clear hsn
      have hc0 := (HG.out.later HB.out).cell s[k]
      have hby := s[k].toNat_lt
      have hml := La.mask_lt s[k].toNat
      have hand : bits BinOp.and IntKind.u8 ((La.mask s[k].toNat : Nat) : Int) (m : Int) = ((La.mask s[k].toNat &&& m : Nat) : Int) := u8_and_nat _ _ hml hm
      have i1 : (k : Int) < (s.size : Int) := by omega
      have i0 : (0 : Int) ≤ (k : Int) := by omega
      generalize hx : s[k] = x at *
      have j1 : ((x.toNat : Nat) : Int) < 256 := by omega
      have j0 : (0 : Int) ≤ ((x.toNat : Nat) : Int) := by omega
      by_cases hz : La.mask x.toNat &&& m = 0
      · generalize hmk : La.mask x.toNat = mk at *
        rw [hz] at hand
        have HZ := Lib.hid hz
        have HMK : Hid (decide (La.mask x.toNat &&& m ≠ 0) = false) := Lib.hid (by rw [hmk, hz]; rfl)
        clear hz hmk
        go_wp2_with fail
        go_quiet (fail)
        go_wp2_with fail
        go_ret
        refine ⟨?_, below_drewN HB.out _⟩
        rw [HR.out]
        have hsp : s.data.toList = s.data.toList.take (k + 1) ++ s.data.toList.drop (k + 1) := (List.take_append_drop _ _).symm
        have : s.data.toList.all (fun b => decide ((La.mask b.toNat) &&& m ≠ 0)) = false := by
          rw [hsp, HSN.out, List.all_append, List.all_append]
          simp only [List.all_cons, List.all_nil, Bool.and_true]
          rw [HMK.out]
          simp
        rw [this]; rfl
      · generalize hv : La.mask x.toNat &&& m = v at *
        have HV := Lib.hid hv; clear hv
        have hne : ((v : Int) == 0) = false := by simp; omega
        have HZ := Lib.hid hz; clear hz
        generalize hmk : La.mask x.toNat = mk at *
        have HMK := Lib.hid hmk; clear hmk
        go_wp2_with fail
        go_quiet (fail)
        go_wp2_with fail
        go_roundw
        case rel =>
          refine ⟨k + 1, by omega, by go_num, ?_, below_drewN HB.out _⟩
          rw [HSN.out, List.all_append, HA.out]
          simp only [List.all_cons, List.all_nil, Bool.and_true, Bool.true_and, HMK.out, HV.out]
          simpa using HZ.out
        case measure => simp [intOf]; omega
    · have hE : s.data.toList.all (fun b => decide ((La.mask b.toNat) &&& m ≠ 0)) = true := by
        have := HA.out
        rwa [List.take_of_length_le (by simp; omega)] at this
      have HE := Lib.hid hE; clear hE
      have hem := La.isEmpty_eq s
      by_cases h0 : s.size = 0
      · have he : s.toList.isEmpty = true := by rw [hem]; simp [h0]
        have H0 := Lib.hid h0; clear h0 hem
        go_wp2_with fail
        go_ret
        refine ⟨?_, HB.out⟩
        rw [HR.out, HE.out]
        simp [H0.out]
      · have he : s.toList.isEmpty = false := by rw [hem]; simp [h0]
        have H0 := Lib.hid h0; clear h0 hem
        go_wp2_with fail
        go_ret
        refine ⟨?_, HB.out⟩
        rw [HR.out, HE.out]
        have := H0.out
        simp [this]; omega
end Go.Proofs.Ytcdlkiephdghlaa
