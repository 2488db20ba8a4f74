import Derived.Test.YtliobahnekohmaaGreatArr
import Derived.Deep.DeepMust
import Derived.Test.YtliobahnekohmaaGreatLabs
import Derived.Deep.DeepCutAuto
import Derived.Laws.Tables
import Derived.Test.YtliobahnekohmaaGreatBld
import Derived.Test.YtliobahnekohmaaGreatNumG
import Derived.Laws.StructEq
import Derived.RangeFuncBox
/-
  What the functions of package label come to: masks, all.
-/
namespace Go.Proofs.YtliobahnekohmaaGreat
open Go.RowKit
namespace La
def mask (b : Nat) : Nat := if 97 ≤ b ∧ b ≤ 122 then 7 else if b = 95 then 7 else if 48 ≤ b ∧ b ≤ 57 then 6 else if 32 ≤ b ∧ b ≤ 126 then 4 else 0
def part1 (k b : Nat) : Nat := if 32 ≤ b ∧ b < k then 4 else 0
def part2 (k b : Nat) : Nat := part1 127 b + if 97 ≤ b ∧ b < k then 3 else 0
def part3 (k b : Nat) : Nat := part2 123 b + if 48 ≤ b ∧ b < k then 2 else 0
def cellsOf (f : Nat → Nat) : Array Value := (List.map (fun i : Nat => Value.int .u8 (f i : Nat)) (List.range 256)).toArray
theorem cellsOf_size (f : Nat → Nat) : (cellsOf f).size = 256 := by simp [cellsOf]
theorem cellsOf_get (f : Nat → Nat) (i : Nat) (h : i < 256) : (cellsOf f)[i]? = some (.int .u8 (f i : Nat)) := by simp [cellsOf, h]
theorem cellsOf_one (f : Nat → Nat) : (cellsOf f).all (·.oneCell') = true := by
 simp [cellsOf, Value.oneCell']
theorem cellsOf_eq (f g : Nat → Nat) (h : ∀ i, i < 256 → f i = g i) : cellsOf f = cellsOf g := by
 unfold cellsOf
 congr 1
 apply List.map_congr_left
 intro i hi
 rw [h i (List.mem_range.1 hi)]
theorem cellsOf_set (f g : Nat → Nat) (k v : Nat) (hk : k < 256) (hv : g k = v) (h : ∀ i, i < 256 → i ≠ k → f i = g i) : (cellsOf f).setIfInBounds k (.int .u8 (v : Nat)) = cellsOf g := by
 apply Array.ext_getElem?
 intro i
 rw [Array.getElem?_setIfInBounds]
 by_cases hi : i < 256
 · rw [cellsOf_get _ _ hi, cellsOf_get _ _ hi, cellsOf_size]
   by_cases e : k = i
   · subst e; simp [hk, hv]
   · rw [if_neg e, h i hi (fun e2 => e e2.symm)]
 · have h1 : (cellsOf f)[i]? = none := by simp [cellsOf_size]; omega
   have h2 : (cellsOf g)[i]? = none := by simp [cellsOf_size]; omega
   rw [h1, h2, cellsOf_size, if_neg (by omega)]
theorem zero_cells : cellsOf (part1 32) = (List.replicate 256 (Value.int .u8 0)).toArray := by kernel_rfl
theorem last_part : ∀ i : Fin 256, i.val ≠ 95 → part3 58 i.val = mask i.val := by decide +kernel
theorem last_cells : (cellsOf (part3 58)).setIfInBounds 95 (.int .u8 7) = cellsOf mask :=
 cellsOf_set (part3 58) mask 95 7 (by decide) (by decide) (fun i hi hne => last_part ⟨i, hi⟩ hne)
theorem step1 (k : Nat) (h1 : 32 ≤ k) (h2 : k ≤ 126) : (cellsOf (part1 k)).setIfInBounds k (.int .u8 4) = cellsOf (part1 (k + 1)) :=
 cellsOf_set (part1 k) (part1 (k + 1)) k 4 (by omega) (by unfold part1; rw [if_pos (by omega)]) (fun i _ hne => by
  unfold part1
  by_cases h : 32 ≤ i ∧ i < k
  · rw [if_pos h, if_pos (by omega)]
  · rw [if_neg h, if_neg (by omega)])
theorem step2 (k : Nat) (h2 : k ≤ 122) : (cellsOf (part2 k)).setIfInBounds k (.int .u8 (part2 (k + 1) k : Nat)) = cellsOf (part2 (k + 1)) :=
 cellsOf_set (part2 k) (part2 (k + 1)) k _ (by omega) rfl (fun i _ hne => by
  unfold part2
  congr 1
  by_cases h : 97 ≤ i ∧ i < k
  · rw [if_pos h, if_pos (by omega)]
  · rw [if_neg h, if_neg (by omega)])
theorem step3 (k : Nat) (h2 : k ≤ 57) : (cellsOf (part3 k)).setIfInBounds k (.int .u8 (part3 (k + 1) k : Nat)) = cellsOf (part3 (k + 1)) :=
 cellsOf_set (part3 k) (part3 (k + 1)) k _ (by omega) rfl (fun i _ hne => by
  unfold part3
  congr 1
  by_cases h : 48 ≤ i ∧ i < k
  · rw [if_pos h, if_pos (by omega)]
  · rw [if_neg h, if_neg (by omega)])
theorem start2 : cellsOf (part1 127) = cellsOf (part2 97) := cellsOf_eq _ _ (fun i _ => by unfold part2; rw [if_neg (by omega)]; rfl)
theorem start3 : cellsOf (part2 123) = cellsOf (part3 48) := cellsOf_eq _ _ (fun i _ => by unfold part3; rw [if_neg (by omega)]; rfl)
theorem or3 : ∀ k : Fin 256, 97 ≤ k.val → k.val ≤ 122 → bits BinOp.or IntKind.u8 ((part2 k.val k.val : Nat) : Int) 3 = ((part2 (k.val + 1) k.val : Nat) : Int) := by decide +kernel
theorem or2 : ∀ k : Fin 256, 48 ≤ k.val → k.val ≤ 57 → bits BinOp.or IntKind.u8 ((part3 k.val k.val : Nat) : Int) 2 = ((part3 (k.val + 1) k.val : Nat) : Int) := by decide +kernel
end La
theorem grown_setRow (w : World) (g : Nat) (cs : Array Value) : w.grownBy (w.setRow g cs) (some g) :=
 ⟨rfl, rfl, rfl, by simp, fun k _ hne => setRow_other w g k cs (fun e => hne (by rw [e]))⟩
theorem zero_masks (w : World) : (zeroValue 117).run Tryz.prog w = .ok (.agg (La.cellsOf (La.part1 32))) w := by
 rw [La.zero_cells]; kernel_rfl
set_option maxRecDepth 100000 in
set_option maxHeartbeats 1000000 in
theorem masks_any (w : World) :
 Calls Tryz.prog 83 #[] w fun e w' => e = .returned (.agg (La.cellsOf La.mask)) ∧ Below w.heap.size w w' := by
 have hz := zero_masks
 have HZ := Lib.hid (La.cellsOf_size)
 go_enter Tryz.func83, Tryz.ntmps83
 go_wp2_with fail
 go_loopw [2] (fun v wr => ∃ k : Nat, 32 ≤ k ∧ k ≤ 127 ∧ v = .int .u8 k ∧ wr = (w.alloc (.cells (La.cellsOf (La.part1 32)) 117)).alloc (.cells (La.cellsOf (La.part1 k)) 117)) (fun v _ => 127 - (intOf v).toNat)
 case atStart => exact ⟨32, by omega, by omega, rfl, rfl⟩
 case round =>
  obtain ⟨k, hk1, hk2, rfl, rfl⟩ := hrel
  by_cases h : k ≤ 126
  · have hg := La.cellsOf_get (La.part1 k) k (by omega)
    have HS := Lib.hid (La.step1 k hk1 h)
    have hzz := La.cellsOf_size (La.part1 k)
    generalize Value.int .u8 ((La.part1 k k : Nat) : Int) = v0 at hg
    generalize hc : La.cellsOf (La.part1 k) = ck at *
    have HC := Lib.hid hc; clear hc
    go_wp2_with fail
    go_roundw
    case rel => exact ⟨k + 1, by omega, by omega, by go_num, by rw [HS.out]⟩
    case measure => simp [intOf]; omega
  · obtain rfl : k = 127 := by omega
    rw [La.start2]
    go_wp2_with fail
    go_loopw [3] (fun v wr => ∃ k : Nat, 97 ≤ k ∧ k ≤ 123 ∧ v = .int .u8 k ∧ wr = (w.alloc (.cells (La.cellsOf (La.part1 32)) 117)).alloc (.cells (La.cellsOf (La.part2 k)) 117)) (fun v _ => 123 - (intOf v).toNat)
    case atStart => exact ⟨97, by omega, by omega, rfl, rfl⟩
    case round =>
     obtain ⟨k, hk3, hk4, rfl, rfl⟩ := hrel
     by_cases h : k ≤ 122
     · have hg := La.cellsOf_get (La.part2 k) k (by omega)
       have HS := Lib.hid (La.step2 k h)
       have hzz := La.cellsOf_size (La.part2 k)
       have hor := La.or3 ⟨k, by omega⟩ hk3 h
       simp only at hor
       generalize La.part2 k k = a0 at *
       generalize La.part2 (k + 1) k = a1 at *
       generalize hc : La.cellsOf (La.part2 k) = ck at *
       have HC := Lib.hid hc; clear hc
       go_wp2_with fail
       go_roundw
       case rel => exact ⟨k + 1, by omega, by omega, by go_num, by rw [HS.out]⟩
       case measure => simp [intOf]; omega
     · obtain rfl : k = 123 := by omega
       rw [La.start3]
       go_wp2_with fail
       go_loopw [4] (fun v wr => ∃ k : Nat, 48 ≤ k ∧ k ≤ 58 ∧ v = .int .u8 k ∧ wr = (w.alloc (.cells (La.cellsOf (La.part1 32)) 117)).alloc (.cells (La.cellsOf (La.part3 k)) 117)) (fun v _ => 58 - (intOf v).toNat)
       case atStart => exact ⟨48, by omega, by omega, rfl, rfl⟩
       case round =>
        obtain ⟨k, hk5, hk6, rfl, rfl⟩ := hrel
        by_cases h : k ≤ 57
        · have hg := La.cellsOf_get (La.part3 k) k (by omega)
          have HS := Lib.hid (La.step3 k h)
          have hzz := La.cellsOf_size (La.part3 k)
          have hor := La.or2 ⟨k, by omega⟩ hk5 h
          simp only at hor
          generalize La.part3 k k = a0 at *
          generalize La.part3 (k + 1) k = a1 at *
          generalize hc : La.cellsOf (La.part3 k) = ck at *
          have HC := Lib.hid hc; clear hc
          go_wp2_with fail
          go_roundw
          case rel => exact ⟨k + 1, by omega, by omega, by go_num, by rw [HS.out]⟩
          case measure => simp [intOf]; omega
        · obtain rfl : k = 58 := by omega
          have hg := La.cellsOf_get (La.part3 58) 95 (by omega)
          have hzz := La.cellsOf_size (La.part3 58)
          have hor : bits BinOp.or IntKind.u8 ((La.part3 58 95 : Nat) : Int) 3 = 7 := by decide +kernel
          have HS := Lib.hid La.last_cells
          generalize La.part3 58 95 = a0 at *
          generalize hc : La.cellsOf (La.part3 58) = ck at *
          have HC := Lib.hid hc; clear hc
          have hg2 : ck[95]'(by omega) = .int .u8 (a0 : Int) := (Array.getElem?_eq_some_iff.1 hg).2
          have hz0 := La.cellsOf_size (La.part1 32)
          have hzm := La.cellsOf_size La.mask
          have h43 : (Tryz.prog.info? 117).map (·.size) = some 256 := by kernel_rfl
          have hone := La.cellsOf_one La.mask
          generalize hc0 : La.cellsOf (La.part1 32) = c0 at *
          have HC0 := Lib.hid hc0; clear hc0
          generalize hcm : La.cellsOf La.mask = cm at *
          have HCM := Lib.hid hcm; clear hcm
          go_wp2_with (first
           | (refine wpList_load_row rfl 117 (.tmp 1) rfl (w.heap.size + 1) rfl 117 cm (0, 0) _ (by rw [← HS.out]; exact heap_alloc2_new w _ _) Tryz.underlying117 rfl (by rw [hzm]; exact h43) ?_)
           | (refine wpList_store_row rfl 117 (.tmp 0) (.tmp 33) rfl w.heap.size cm rfl rfl 117 c0 (heap_alloc2_old w _ _) (by rw [hzm]; exact h43) (by omega) hone ?_))
          have hb9 := ((Below.refl w.heap.size w).alloc (Nat.le_refl _) (.cells c0 117)).alloc (by simp) (.cells (ck.setIfInBounds 95 (.int .u8 7)) 117)
          refine bodyPost_ret (v := .agg cm) ?_ rfl ⟨by rw [HCM.out], hb9.grown (grown_setRow _ w.heap.size cm) hb9.size (fun r e => by cases e; exact Nat.le_refl _)⟩
          exact results_cell_row rfl _ _ w.heap.size 117 cm (0, 0) _ rfl (setRow_heap _ _ c0 cm _ _ (heap_alloc2_old w _ _)) Tryz.underlying117 rfl (by rw [hzm]; exact h43)
namespace La
def allB (m : Nat) (s : ByteArray) : Bool := s.data.toList.all (fun b => decide ((mask b.toNat) &&& m ≠ 0)) && (decide (s.size ≠ 0) && decide (s.size ≤ 48))
theorem isEmpty_eq (s : ByteArray) : s.toList.isEmpty = decide (s.size = 0) := by
 rw [ByteArray.toList_eq]
 have h : s.data.toList.length = s.size := by simp
 cases hl : s.data.toList with
 | nil => rw [hl] at h; simp at h; simp [← h]
 | cons a l =>
  rw [hl, List.length_cons] at h
  rw [List.isEmpty_cons]
  exact (decide_eq_false (by omega)).symm
theorem mask_lt (b : Nat) : mask b < 256 := by unfold mask; (repeat' split) <;> decide
end La
def MaskAt (W : World) (g : Nat) : Prop := W.heap[g]? = some (.cells (La.cellsOf La.mask) 117 (0, 0))
theorem MaskAt.later {W W2 : World} {g : Nat} (h : MaskAt W g) (hb : Below W.heap.size W W2) : MaskAt W2 g := heap_keep h hb
theorem MaskAt.cell {W : World} {g : Nat} (h : MaskAt W g) (b : UInt8) : W.cell? ⟨g, b.toNat, none⟩ = some (.int .u8 (La.mask b.toNat : Nat)) := by
 rw [cell_of_row _ _ _ _ _ _ h, La.cellsOf_get _ _ b.toNat_lt]
set_option maxRecDepth 100000 in
set_option maxHeartbeats 1000000 in
theorem all_any (g : Nat) (s : ByteArray) (hs : s.size ≤ maxLen) (m : Nat) (hm : m < 256) (w : World) (hg : MaskAt w g) :
 Calls Tryz.prog 84 #[.pointer (some ⟨g, 0, none⟩), .string s, .int .u8 m] w fun e w' => e = .returned (.bool (La.allB m s)) ∧ Below w.heap.size w w' := by
 unfold maxLen at hs
 have hall : La.allB m s = (s.data.toList.all (fun b => decide ((La.mask b.toNat) &&& m ≠ 0)) && (decide (s.size ≠ 0) && decide (s.size ≤ 48))) := rfl
 generalize La.allB m s = r at *
 have HR := Lib.hid hall; have HG := Lib.hid hg
 clear hall hg
 go_enter Tryz.func84, Tryz.ntmps84
 go_wp2_with fail
 go_loopw [10] (fun i wr => ∃ k : Nat, k ≤ s.size ∧ i = .int .i64 k ∧ (s.data.toList.take k).all (fun b => decide ((La.mask b.toNat) &&& m ≠ 0)) = true ∧ Below w.heap.size w wr) (fun i _ => s.size - (intOf i).toNat)
 case atStart => exact ⟨0, by omega, rfl, rfl, Below.refl _ _⟩
 case round =>
  obtain ⟨k, hk, rfl, ha, hb⟩ := hrel
  have HA := Lib.hid ha; have HB := Lib.hid hb; clear ha hb
  by_cases hlt : k < s.size
  · have hsn : s.data.toList.take (k + 1) = s.data.toList.take k ++ [s[k]] := by
     rw [List.take_succ_eq_append_getElem (by simpa using hlt)]; rfl
    have HSN := Lib.hid hsn; clear hsn
    have hc0 := (HG.out.later HB.out).cell s[k]
    have hby := s[k].toNat_lt
    have hml := La.mask_lt s[k].toNat
    have hand : bits BinOp.and IntKind.u8 ((La.mask s[k].toNat : Nat) : Int) (m : Int) = ((La.mask s[k].toNat &&& m : Nat) : Int) := u8_and_nat _ _ hml hm
    have i1 : (k : Int) < (s.size : Int) := by omega
    have i0 : (0 : Int) ≤ (k : Int) := by omega
    generalize hx : s[k] = x at *
    have j1 : ((x.toNat : Nat) : Int) < 256 := by omega
    have j0 : (0 : Int) ≤ ((x.toNat : Nat) : Int) := by omega
    by_cases hz : La.mask x.toNat &&& m = 0
    · generalize hmk : La.mask x.toNat = mk at *
      rw [hz] at hand
      have HZ := Lib.hid hz
      have HMK : Hid (decide (La.mask x.toNat &&& m ≠ 0) = false) := Lib.hid (by rw [hmk, hz]; rfl)
      clear hz hmk
      go_wp2_with fail
      go_quiet (fail)
      go_wp2_with fail
      go_ret
      refine ⟨?_, below_drewN HB.out _⟩
      rw [HR.out]
      have hsp : s.data.toList = s.data.toList.take (k + 1) ++ s.data.toList.drop (k + 1) := (List.take_append_drop _ _).symm
      have : s.data.toList.all (fun b => decide ((La.mask b.toNat) &&& m ≠ 0)) = false := by
       rw [hsp, HSN.out, List.all_append, List.all_append]
       simp only [List.all_cons, List.all_nil, Bool.and_true]
       rw [HMK.out]
       simp
      rw [this]; rfl
    · generalize hv : La.mask x.toNat &&& m = v at *
      have HV := Lib.hid hv; clear hv
      have hne : ((v : Int) == 0) = false := by simp; omega
      have HZ := Lib.hid hz; clear hz
      generalize hmk : La.mask x.toNat = mk at *
      have HMK := Lib.hid hmk; clear hmk
      go_wp2_with fail
      go_quiet (fail)
      go_wp2_with fail
      go_roundw
      case rel =>
       refine ⟨k + 1, by omega, by go_num, ?_, below_drewN HB.out _⟩
       rw [HSN.out, List.all_append, HA.out]
       simp only [List.all_cons, List.all_nil, Bool.and_true, Bool.true_and, HMK.out, HV.out]
       simpa using HZ.out
      case measure => simp [intOf]; omega
  · have hE : s.data.toList.all (fun b => decide ((La.mask b.toNat) &&& m ≠ 0)) = true := by
     have := HA.out
     rwa [List.take_of_length_le (by simp; omega)] at this
    have HE := Lib.hid hE; clear hE
    have hem := La.isEmpty_eq s
    by_cases h0 : s.size = 0
    · have he : s.toList.isEmpty = true := by rw [hem]; simp [h0]
      have H0 := Lib.hid h0; clear h0 hem
      go_wp2_with fail
      go_ret
      refine ⟨?_, HB.out⟩
      rw [HR.out, HE.out]
      simp [H0.out]
    · have he : s.toList.isEmpty = false := by rw [hem]; simp [h0]
      have H0 := Lib.hid h0; clear h0 hem
      go_wp2_with fail
      go_ret
      refine ⟨?_, HB.out⟩
      rw [HR.out, HE.out]
      have := H0.out
      simp [this]; omega
end Go.Proofs.YtliobahnekohmaaGreat
/-
  What the functions of package label come to: Check.
-/
namespace Go.Proofs.YtliobahnekohmaaGreat
open Go.RowKit
namespace La
def first (s : ByteArray) : Nat := mask (s.data.toList.getD 0 0).toNat
def okName (s : ByteArray) : Bool := allB 2 s && decide (first s &&& 1 ≠ 0)
def okValue (s : ByteArray) : Bool := allB 4 s
def less (a b : ByteArray) : Bool := Op.bytesLess a.toList b.toList
def okAt (f : Nat → Lab) (i : Nat) : Bool := (okName (f i).1 && okValue (f i).2) && (decide (i = 0) || less (f (i - 1)).1 (f i).1)
def right (f : Nat → Lab) (n : Nat) : Bool := decide (1 ≤ n ∧ n ≤ 6) && (List.range n).all (okAt f)
theorem range_all_succ (p : Nat → Bool) (k : Nat) : (List.range (k + 1)).all p = ((List.range k).all p && p k) := by
 rw [List.range_succ, List.all_append]; simp
theorem right_no (f : Nat → Lab) (n k : Nat) (hk : k < n) (h : okAt f k = false) : right f n = false := by
 unfold right
 have : (List.range n).all (okAt f) = false := by
  rw [List.all_eq_false]
  exact ⟨k, List.mem_range.2 hk, by simp [h]⟩
 rw [this, Bool.and_false]
theorem right_yes (f : Nat → Lab) (n : Nat) (h1 : 1 ≤ n) (h2 : n ≤ 6) (h : (List.range n).all (okAt f) = true) : right f n = true := by
 unfold right; rw [h]; simp [h1, h2]
theorem allB_pos {m : Nat} {s : ByteArray} (h : allB m s = true) : 0 < s.size ∧ s.size ≤ 48 := by
 unfold allB at h
 simp only [Bool.and_eq_true, decide_eq_true_eq] at h
 omega
theorem first_eq (s : ByteArray) (h : 0 < s.size) : mask s[0].toNat = first s := by
 unfold first
 congr 2
 have h2 : 0 < s.data.toList.length := by simpa using h
 rw [List.getD_eq_getElem?_getD, List.getElem?_eq_getElem h2]
 rfl
theorem int_ne {v : Nat} (h : ¬ v = 0) : ((v : Int) == 0) = false := by simpa using h
def err (b : Bool) : Nat := if b then 0 else 2
end La
set_option maxRecDepth 100000 in
set_option maxHeartbeats 4000000 in
theorem Check_any (A : Option Addr) (n c : Nat) (hn : n ≤ maxLen) (f : Nat → Lab) (hs : ∀ i, i < n → (f i).1.size ≤ maxLen ∧ (f i).2.size ≤ maxLen) (w : World) (hA : LabRow w A n f) :
 Calls Tryz.prog 45 #[.slice A n c] w fun e w' => e = .returned (.int .i64 ((La.err (La.right f n) : Nat) : Int)) ∧ Below w.heap.size w w' := by
 unfold maxLen at hn
 have HA := Lib.hid hA; have HSZ := Lib.hid hs; clear hA hs
 by_cases hr : 1 ≤ n ∧ n ≤ 6
 · obtain ⟨hn1, hn6⟩ := hr
   have d1 : decide ((n : Int) < 1) = false := by simp; omega
   have d2 : decide ((6 : Int) < (n : Int)) = false := by simp; omega
   have hz := zero_masks
   have h43 : (Tryz.prog.info? 117).map (·.size) = some 256 := by kernel_rfl
   have hz0 := La.cellsOf_size (La.part1 32)
   have hzm := La.cellsOf_size La.mask
   have hone := La.cellsOf_one La.mask
   go_enter Tryz.func45, Tryz.ntmps45
   go_wp2_with fail
   refine (masks_any _).mono ?_; rintro e w1 ⟨rfl, hb1⟩
   have hb2 := hb1.alloc hb1.size (.cells (La.cellsOf La.mask) 117)
   have hm2 : MaskAt (w1.alloc (.cells (La.cellsOf La.mask) 117)) w1.heap.size := heap_alloc_new _ _
   have HB2 := Lib.hid hb2; have HM2 := Lib.hid hm2; clear hb1 hb2 hm2
   go_upto_region 4 with (refine wpList_store_row rfl 117 (.tmp 3) (.tmp 14) rfl w1.heap.size (La.cellsOf La.mask) rfl rfl 117 (La.cellsOf (La.part1 32)) (heap_alloc_new w1 _) (by rw [hzm]; exact h43) (by omega) hone ?_)
   rw [setRow_alloc]
   generalize w1.alloc (.cells (La.cellsOf La.mask) 117) = w2 at *
   generalize w1.heap.size = g at *
   clear hz h43 hz0 hzm hone
   go_wp2_with fail
   go_loopw [17] (fun i wr => ∃ k : Nat, k ≤ n ∧ i = .int .i64 k ∧ (List.range k).all (La.okAt f) = true ∧ MaskAt wr g ∧ Below w.heap.size w wr) (fun i _ => n - (intOf i).toNat)
   case atStart => exact ⟨0, by omega, rfl, rfl, HM2.out, HB2.out⟩
   case round =>
    obtain ⟨k, hk, rfl, hall, hm, hb⟩ := hrel
    have HALL := Lib.hid hall; have HM := Lib.hid hm; have HB := Lib.hid hb
    clear hall hm hb
    by_cases hlt : k < n
    · obtain ⟨ad, rfl, c0, c1⟩ := HA.out.at_ HB.out hlt
      have hsz := HSZ.out k hlt
      have hok : La.okAt f k = ((La.okName (f k).1 && La.okValue (f k).2) && (decide (k = 0) || La.less (f (k - 1)).1 (f k).1)) := rfl
      have HOK := Lib.hid hok; clear hok
      have hal : Below wr.heap.size wr (wr.alloc (.cells #[.string (f k).1, .string (f k).2] 37)) := (Below.refl _ _).alloc (Nat.le_refl _) _
      have hrow : RowIs (wr.alloc (.cells #[.string (f k).1, .string (f k).2] 37)) wr.heap.size (.cells #[.string (f k).1, .string (f k).2] 37) := RowIs.one _ _
      have HBA := Lib.hid (below_step HB.out hal); have HMA := Lib.hid (HM.out.later hal); have HROW := Lib.hid hrow
      have HPREV := Lib.hid (fun (W : World) (hb : Below w.heap.size w W) (h0 : k ≠ 0) => HA.out.at_ hb (show k - 1 < n by omega))
      clear hal hrow
      obtain ⟨x, hx⟩ : ∃ x, (f k).1 = x := ⟨_, rfl⟩
      obtain ⟨y, hy⟩ : ∃ y, (f k).2 = y := ⟨_, rfl⟩
      rw [hx] at c0 HBA HMA HROW HOK hsz
      rw [hy] at c1 HBA HMA HROW HOK hsz
      obtain ⟨hsx, hsy⟩ := hsz
      have HX := Lib.hid hx; have HY := Lib.hid hy; clear hx hy
      generalize hwa : wr.alloc (.cells #[.string x, .string y] 37) = wa at *
      have hgl : wr.heap.size < wa.heap.size := by rw [← hwa]; simp
      have xa0 : wa.cell? ⟨wr.heap.size, 0, none⟩ = some (.string x) := cell_of_row _ _ _ _ _ _ HROW.out
      have ya0 : wa.cell? ⟨wr.heap.size, 1, none⟩ = some (.string y) := cell_of_row _ _ _ _ _ _ HROW.out
      by_cases q1 : La.allB 2 x = true
      · have hpos := (La.allB_pos q1).1
        go_wp2_with fail
        refine (all_any g x hsx 2 (by omega) _ HMA.out).mono ?_; rintro e w4 ⟨rfl, hb4⟩
        have HB4 := Lib.hid (below_step HBA.out hb4); have HM4 := Lib.hid (HMA.out.later hb4); have HROW4 := Lib.hid (HROW.out.keep hb4)
        clear hb4
        have x0 : w4.cell? ⟨wr.heap.size, 0, none⟩ = some (.string x) := cell_of_row _ _ _ _ _ _ HROW4.out
        have y0 : w4.cell? ⟨wr.heap.size, 1, none⟩ = some (.string y) := cell_of_row _ _ _ _ _ _ HROW4.out
        rw [q1]
        have hfst : w4.cell? ⟨g, x[0].toNat, none⟩ = some (.int .u8 (La.first x : Nat)) := by rw [HM4.out.cell, La.first_eq x hpos]
        have hand : bits BinOp.and IntKind.u8 ((La.first x : Nat) : Int) 1 = ((La.first x &&& 1 : Nat) : Int) := u8_and_nat (La.first x) 1 (La.mask_lt _) (by decide)
        have j1 : ((x[0].toNat : Nat) : Int) < 256 := by have := x[0].toNat_lt; omega
        have j0 : (0 : Int) ≤ ((x[0].toNat : Nat) : Int) := by omega
        by_cases q2 : La.first x &&& 1 = 0
        · rw [q2] at hand
          have Q1 := Lib.hid q1; have Q2 := Lib.hid q2; clear q1 q2
          generalize hfm : La.first x = fm at *
          have HFM := Lib.hid hfm; clear hfm
          go_wp2_with fail
          go_ret
          refine ⟨?_, HB4.out⟩
          have hno : La.right f n = false := La.right_no f n k hlt (by rw [HOK.out]; unfold La.okName La.okValue; simp [HFM.out, Q2.out])
          rw [hno]; rfl
        · have hne : (((La.first x &&& 1 : Nat) : Int) == 0) = false := La.int_ne q2
          have Q1 := Lib.hid q1; have Q2 := Lib.hid q2; clear q1 q2
          generalize hfm : La.first x = fm at *
          generalize hfv : fm &&& 1 = fv at *
          have HFM := Lib.hid hfm; have HFV := Lib.hid hfv; clear hfm hfv
          go_wp2_with fail
          refine (all_any g y hsy 4 (by omega) _ HM4.out).mono ?_; rintro e w5 ⟨rfl, hb5⟩
          have HB5 := Lib.hid (below_step HB4.out hb5); have HM5 := Lib.hid (HM4.out.later hb5); have HROW5 := Lib.hid (HROW4.out.keep hb5)
          clear hb5 x0 y0 hfst
          have x0 : w5.cell? ⟨wr.heap.size, 0, none⟩ = some (.string x) := cell_of_row _ _ _ _ _ _ HROW5.out
          by_cases q3 : La.allB 4 y = true
          · rw [q3]
            have Q3 := Lib.hid q3; clear q3
            by_cases k0 : k = 0
            · have hd0 : decide ((0 : Int) < (k : Int)) = false := by simp; omega
              have hd0n : decide (0 < k) = false := by simp; omega
              go_wp2_with fail
              go_quiet (fail)
              go_wp2_with fail
              go_roundw
              case rel =>
               refine ⟨k + 1, by omega, by go_num, ?_, HM5.out, below_drewN HB5.out _⟩
               rw [La.range_all_succ, HALL.out, HOK.out]
               unfold La.okName La.okValue
               rw [Q1.out, Q3.out, HFM.out]
               have q2 := Q2.out
               simp [HFV.out, q2, k0]
              case measure => simp [intOf]; omega
            · have hd0 : decide ((0 : Int) < (k : Int)) = true := by simp; omega
              have hd0n : decide (0 < k) = true := by simp; omega
              obtain ⟨ad', e1, p0, _⟩ := HPREV.out w5 HB5.out k0
              cases e1
              have i1 : ((k : Int) - 1).toNat = k - 1 := by omega
              have i2 : IntKind.i64.wrap ((k : Int) - 1) = (k : Int) - 1 := IntWalk.i64_in _ (by omega)
              have i3 : (1 : Int) ≤ (k : Int) := by omega
              have i4 : (k : Int) - 1 < (n : Int) := by omega
              have i5 : (0 : Int) ≤ (k : Int) - 1 := by omega
              obtain ⟨z, hz⟩ : ∃ z, (f (k - 1)).1 = z := ⟨_, rfl⟩
              rw [hz] at p0
              have HZ := Lib.hid hz; clear hz
              by_cases hl : Op.bytesLess z.toList x.toList = true
              · have hlb : (!(Op.bytesLess z.toList x.toList)) = false := by rw [hl]; rfl
                have HL := Lib.hid hl; clear hl
                go_wp2_with fail
                go_quiet (fail)
                go_wp2_with fail
                go_roundw
                case rel =>
                 refine ⟨k + 1, by omega, by go_num, ?_, HM5.out, below_drewN HB5.out _⟩
                 rw [La.range_all_succ, HALL.out, HOK.out]
                 unfold La.okName La.okValue
                 rw [Q1.out, Q3.out, HFM.out]
                 have q2 := Q2.out
                 simp [HFV.out, q2, La.less, HZ.out, HL.out]
                case measure => simp [intOf]; omega
              · have hlb : (!(Op.bytesLess z.toList x.toList)) = true := by simpa using hl
                have HL := Lib.hid hl; clear hl
                go_wp2_with fail
                go_quiet (fail)
                go_wp2_with fail
                go_ret
                refine ⟨?_, below_drewN HB5.out _⟩
                have hno : La.right f n = false := La.right_no f n k hlt (by rw [HOK.out, HZ.out]; unfold La.less; have hl := HL.out; simp [k0, hl])
                rw [hno]; rfl
          · have q3' : La.allB 4 y = false := by simpa using q3
            rw [q3']
            have Q3 := Lib.hid q3'; clear q3 q3'
            go_wp2_with fail
            go_ret
            refine ⟨?_, HB5.out⟩
            have hno : La.right f n = false := La.right_no f n k hlt (by rw [HOK.out]; unfold La.okName La.okValue; simp [Q3.out])
            rw [hno]; rfl
      · have q1' : La.allB 2 x = false := by simpa using q1
        go_wp2_with fail
        refine (all_any g x hsx 2 (by omega) _ HMA.out).mono ?_; rintro e w4 ⟨rfl, hb4⟩
        have HB4 := Lib.hid (below_step HBA.out hb4); have HM4 := Lib.hid (HMA.out.later hb4); have HROW4 := Lib.hid (HROW.out.keep hb4)
        clear hb4
        have x0 : w4.cell? ⟨wr.heap.size, 0, none⟩ = some (.string x) := cell_of_row _ _ _ _ _ _ HROW4.out
        have y0 : w4.cell? ⟨wr.heap.size, 1, none⟩ = some (.string y) := cell_of_row _ _ _ _ _ _ HROW4.out
        rw [q1']
        have Q1 := Lib.hid q1'; clear q1 q1'
        go_wp2_with fail
        go_ret
        refine ⟨?_, HB4.out⟩
        have hno : La.right f n = false := La.right_no f n k hlt (by rw [HOK.out]; unfold La.okName La.okValue; simp [Q1.out])
        rw [hno]; rfl
    · obtain rfl : k = n := by omega
      go_wp2_with fail
      go_ret
      refine ⟨?_, HB.out⟩
      rw [La.right_yes f k hn1 hn6 HALL.out]; rfl
 · have hno : La.right f n = false := by unfold La.right; rw [decide_eq_false hr, Bool.false_and]
   rw [hno]
   have hd : decide ((n : Int) < 1) = true ∨ (decide ((n : Int) < 1) = false ∧ decide ((6 : Int) < (n : Int)) = true) := by
    simp only [decide_eq_true_eq, decide_eq_false_iff_not]; omega
   clear hr hno
   rcases hd with d1 | ⟨d1, d2⟩
   all_goals
    go_enter Tryz.func45, Tryz.ntmps45
    go_wp2_with fail
    go_ret
    exact ⟨rfl, Below.refl _ _⟩
end Go.Proofs.YtliobahnekohmaaGreat
/-
  What the functions of package label come to: Limit, Longest, Key, Less, Get.
-/
namespace Go.Proofs.YtliobahnekohmaaGreat
open Go.RowKit
namespace La
def limit (g : Int) : Nat := if g = 1 then 12 else if g = 2 then 24 else if g = 3 then 48 else 0
def longest (f : Nat → Lab) : Nat → Nat
 | 0 => 0
 | k + 1 => max (longest f k) (max (f k).1.size (f k).2.size)
def txt (b : ByteArray) : List UInt8 := (Num.smallB b.size ++ b).data.toList
def key (f : Nat → Lab) : Nat → List UInt8
 | 0 => []
 | k + 1 => key f k ++ txt (f k).1 ++ txt (f k).2
def keyB (f : Nat → Lab) (n : Nat) : ByteArray := ⟨(key f n).toArray⟩
theorem txt_length (b : ByteArray) (h : b.size ≤ 300) : (txt b).length ≤ 310 := by
 have h1 : (Num.smallB b.size).size ≤ 10 := Num.enc_length_le 9 _
 have h2 : (txt b).length = (Num.smallB b.size ++ b).size := by simp [txt]
 rw [h2, ByteArray.size_append]; omega
theorem key_length (f : Nat → Lab) : ∀ k, (∀ i, i < k → (f i).1.size ≤ 300 ∧ (f i).2.size ≤ 300) → (key f k).length ≤ k * 620
 | 0, _ => by simp [key]
 | k + 1, h => by
  have h1 := key_length f k (fun i hi => h i (by omega))
  have h2 := txt_length (f k).1 (h k (by omega)).1
  have h3 := txt_length (f k).2 (h k (by omega)).2
  simp only [key, List.length_append]; omega
def get (f : Nat → Lab) (name : ByteArray) : Nat → Nat → ByteArray
 | 0, _ => ByteArray.empty
 | m + 1, i => if (f i).1 = name then (f i).2 else get f name m (i + 1)
end La
set_option maxHeartbeats 400000 in
theorem Limit_any (g : Int) (w : World) :
 Calls Tryz.prog 49 #[.int .i64 g] w fun e w' => e = .returned (.int .i64 ((La.limit g : Nat) : Int)) ∧ w = w' := by
 have hc : g < 1 ∨ 3 < g ∨ g = 1 ∨ g = 2 ∨ g = 3 := by omega
 rcases hc with h | h | rfl | rfl | rfl
 · have hl : La.limit g = 0 := by unfold La.limit; rw [if_neg (by omega), if_neg (by omega), if_neg (by omega)]
   rw [hl]
   have d1 : decide (g < 1) = true := by simpa using h
   clear hl h
   go_enter Tryz.func49, Tryz.ntmps49
   go_wp2_with fail
   go_ret
   exact ⟨rfl, rfl⟩
 · have hl : La.limit g = 0 := by unfold La.limit; rw [if_neg (by omega), if_neg (by omega), if_neg (by omega)]
   rw [hl]
   have d1 : decide (g < 1) = false := by simp; omega
   have d2 : decide (3 < g) = true := by simpa using h
   clear hl h
   go_enter Tryz.func49, Tryz.ntmps49
   go_wp2_with fail
   go_ret
   exact ⟨rfl, rfl⟩
 all_goals
  go_enter Tryz.func49, Tryz.ntmps49
  go_wp2_with fail
  go_ret
  exact ⟨rfl, rfl⟩
set_option maxRecDepth 100000 in
set_option maxHeartbeats 1000000 in
theorem Longest_any (A : Option Addr) (n c : Nat) (hn : n ≤ maxLen) (f : Nat → Lab) (hs : ∀ i, i < n → (f i).1.size ≤ maxLen ∧ (f i).2.size ≤ maxLen) (w : World) (hA : LabRow w A n f) :
 Calls Tryz.prog 48 #[.slice A n c] w fun e w' => e = .returned (.int .i64 ((La.longest f n : Nat) : Int)) ∧ Below w.heap.size w w' := by
 unfold maxLen at hn
 have HA := Lib.hid hA; have HSZ := Lib.hid hs; clear hA hs
 go_enter Tryz.func48, Tryz.ntmps48
 go_wp2_with fail
 go_loopw [3, 8] (fun v i wr => ∃ k : Nat, k ≤ n ∧ i = .int .i64 k ∧ v = .int .i64 (La.longest f k : Nat) ∧ Below w.heap.size w wr) (fun _ i _ => n - (intOf i).toNat)
 case atStart => exact ⟨0, by omega, rfl, rfl, Below.refl _ _⟩
 case round =>
  obtain ⟨k, hk, rfl, rfl, hb⟩ := hrel
  have HB := Lib.hid hb; clear hb
  by_cases hlt : k < n
  · obtain ⟨ad, rfl, c0, c1⟩ := HA.out.at_ HB.out hlt
    have hsz := HSZ.out k hlt
    have hlo : La.longest f (k + 1) = max (La.longest f k) (max (f k).1.size (f k).2.size) := rfl
    have HLO := Lib.hid hlo; clear hlo
    generalize (f k).1 = x at *
    generalize (f k).2 = y at *
    generalize La.longest f k = m at *
    have HBA := Lib.hid (HB.out.alloc HB.out.size (.cells #[.string x, .string y] 37))
    go_wp2_with fail
    all_goals
     go_roundw
     case rel => exact ⟨k + 1, by omega, by go_num, by congr 1; rw [HLO.out]; omega, HBA.out⟩
     case measure => simp [intOf]; omega
  · obtain rfl : k = n := by omega
    go_wp2_with fail
    go_ret
    exact ⟨rfl, HB.out⟩
set_option maxRecDepth 100000 in
set_option maxHeartbeats 1000000 in
theorem Key_any (A : Option Addr) (n c : Nat) (hn : n ≤ 1000) (f : Nat → Lab) (hs : ∀ i, i < n → (f i).1.size ≤ 300 ∧ (f i).2.size ≤ 300) (w : World) (hA : LabRow w A n f) :
 Calls Tryz.prog 85 #[.slice A n c] w fun e w' => e = .returned (.string (La.keyB f n)) ∧ Below w.heap.size w w' := by
 have HA := Lib.hid hA; have HSZ := Lib.hid hs; clear hA hs
 have hnew := BldAt.new w
 have hb0 : Below w.heap.size w (w.alloc (.cells #[.pointer none, .slice none 0 0] 69)) := (Below.refl _ _).alloc (Nat.le_refl _) _
 have HNEW := Lib.hid hnew; have HB0 := Lib.hid hb0; clear hnew hb0
 go_enter Tryz.func85, Tryz.ntmps85
 go_wp2_with fail
 go_loopw [8] (fun i wr => ∃ k : Nat, k ≤ n ∧ i = .int .i64 k ∧ BldAt wr w.heap.size w.heap.size (La.key f k) ∧ Below w.heap.size w wr) (fun i _ => n - (intOf i).toNat)
 case atStart => exact ⟨0, by omega, rfl, HNEW.out, HB0.out⟩
 case round =>
  obtain ⟨k, hk, rfl, hbl, hb⟩ := hrel
  have HB := Lib.hid hb; have HBL := Lib.hid hbl; clear hb hbl
  by_cases hlt : k < n
  · obtain ⟨ad, rfl, c0, c1⟩ := HA.out.at_ HB.out hlt
    have hsz := HSZ.out k hlt
    have hkl := La.key_length f k (fun i hi => HSZ.out i (by omega))
    have hky : La.key f (k + 1) = La.key f k ++ La.txt (f k).1 ++ La.txt (f k).2 := rfl
    have ht1 := La.txt_length (f k).1 hsz.1
    have ht2 := La.txt_length (f k).2 hsz.2
    have HKY := Lib.hid hky; clear hky
    have hT1 := Text_any (f k).1 hsz.1
    have hT2 := Text_any (f k).2 hsz.2
    have hal : Below wr.heap.size wr (wr.alloc (.cells #[.string (f k).1, .string (f k).2] 37)) := (Below.refl _ _).alloc (Nat.le_refl _) _
    have hrow : RowIs (wr.alloc (.cells #[.string (f k).1, .string (f k).2] 37)) wr.heap.size (.cells #[.string (f k).1, .string (f k).2] 37) := RowIs.one _ _
    have HBA := Lib.hid (below_step HB.out hal); have HBLA := Lib.hid (HBL.out.keep hal); have HROW := Lib.hid hrow
    clear hal hrow
    have hsum1 : (Num.smallB (f k).1.size ++ (f k).1).data.toList = La.txt (f k).1 := rfl
    have hsum2 : (Num.smallB (f k).2.size ++ (f k).2).data.toList = La.txt (f k).2 := rfl
    have hz1 : (Num.smallB (f k).1.size ++ (f k).1).size = (La.txt (f k).1).length := by simp [La.txt]
    have hz2 : (Num.smallB (f k).2.size ++ (f k).2).size = (La.txt (f k).2).length := by simp [La.txt]
    generalize Num.smallB (f k).1.size ++ (f k).1 = t1 at *
    generalize Num.smallB (f k).2.size ++ (f k).2 = t2 at *
    generalize (f k).1 = x at *
    generalize (f k).2 = y at *
    generalize La.txt x = l1 at *
    generalize La.txt y = l2 at *
    generalize La.key f k = kk at *
    have HT1 := Lib.hid hT1; have HT2 := Lib.hid hT2; have HS1 := Lib.hid hsum1; have HS2 := Lib.hid hsum2; have HZ1 := Lib.hid hz1; have HZ2 := Lib.hid hz2
    clear hT1 hT2 hsum1 hsum2 hz1 hz2
    generalize hwa : wr.alloc (.cells #[.string x, .string y] 37) = wa at *
    have xa0 : wa.cell? ⟨wr.heap.size, 0, none⟩ = some (.string x) := cell_of_row _ _ _ _ _ _ HROW.out
    go_wp2_with fail
    refine (HT1.out _).mono ?_; rintro e w4 ⟨rfl, hb4⟩
    have HB4 := Lib.hid (below_step HBA.out hb4); have HBL4 := Lib.hid (HBLA.out.keep hb4); have HROW4 := Lib.hid (HROW.out.keep hb4)
    clear hb4 xa0
    go_wp2_with fail
    refine (bldString w.heap.size w.heap.size kk t1 w4 HBL4.out (by have := HZ1.out; omega) HB4.out.size).mono ?_; rintro e w5 ⟨rfl, hl5, hb5, ho5⟩
    rw [HS1.out] at hl5
    have HB5 := Lib.hid (HB4.out.trans hb5); have HBL5 := Lib.hid hl5
    have hrow5 : RowIs w5 wr.heap.size (.cells #[.string x, .string y] 37) := ho5 _ _ _ HROW4.out (by have := HBL.out.lt; omega) (by decide)
    have HROW5 := Lib.hid hrow5
    clear hb5 hl5 hrow5 ho5
    have ya0 : w5.cell? ⟨wr.heap.size, 1, none⟩ = some (.string y) := cell_of_row _ _ _ _ _ _ HROW5.out
    go_wp2_with fail
    refine (HT2.out _).mono ?_; rintro e w6 ⟨rfl, hb6⟩
    have HB6 := Lib.hid (below_step HB5.out hb6); have HBL6 := Lib.hid (HBL5.out.keep hb6)
    clear hb6 ya0
    go_wp2_with fail
    refine (bldString w.heap.size w.heap.size (kk ++ l1) t2 w6 HBL6.out (by have := HZ2.out; rw [List.length_append]; omega) HB6.out.size).mono ?_; rintro e w7 ⟨rfl, hl7, hb7, _⟩
    rw [HS2.out] at hl7
    have HB7 := Lib.hid (HB6.out.trans hb7); have HBL7 := Lib.hid hl7
    clear hb7 hl7
    go_wp2_with fail
    go_roundw
    case rel => exact ⟨k + 1, by omega, by go_num, by rw [HKY.out]; exact HBL7.out, HB7.out⟩
    case measure => simp [intOf]; omega
  · obtain rfl : k = n := by omega
    go_wp2_with fail
    refine (bldText w.heap.size w.heap.size _ _ HBL.out HB.out.size).mono ?_; rintro e w4 ⟨rfl, hb4⟩
    have HB4 := Lib.hid (HB.out.trans hb4); clear hb4
    go_wp2_with fail
    go_ret
    exact ⟨rfl, HB4.out⟩
end Go.Proofs.YtliobahnekohmaaGreat
/-
  What the functions of package label come to: Less, Get, Same.
-/
namespace Go.Proofs.YtliobahnekohmaaGreat
open Go.RowKit
set_option maxHeartbeats 400000 in
theorem Less_any (A B : Option Addr) (n m c d : Nat) (hn : n ≤ 1000) (hm : m ≤ 1000) (f g : Nat → Lab) (hf : ∀ i, i < n → (f i).1.size ≤ 300 ∧ (f i).2.size ≤ 300) (hg : ∀ i, i < m → (g i).1.size ≤ 300 ∧ (g i).2.size ≤ 300) (w : World) (hA : LabRow w A n f) (hB : LabRow w B m g) :
 Calls Tryz.prog 46 #[.slice A n c, .slice B m d] w fun e w' => e = .returned (.bool (La.less (La.keyB f n) (La.keyB g m))) ∧ Below w.heap.size w w' := by
 have HB := Lib.hid hB
 go_enter Tryz.func46, Tryz.ntmps46
 go_wp2_with fail
 refine (Key_any A n c hn f hf _ hA).mono ?_; rintro e w1 ⟨rfl, hb1⟩
 have HB1 := Lib.hid hb1; clear hb1
 go_wp2_with fail
 refine (Key_any B m d hm g hg _ (HB.out.later HB1.out)).mono ?_; rintro e w2 ⟨rfl, hb2⟩
 have HB2 := Lib.hid (below_step HB1.out hb2); clear hb2
 go_wp2_with fail
 go_ret
 exact ⟨rfl, HB2.out⟩
set_option maxRecDepth 100000 in
set_option maxHeartbeats 1000000 in
theorem Get_any (A : Option Addr) (n c : Nat) (hn : n ≤ maxLen) (f : Nat → Lab) (name : ByteArray) (w : World) (hA : LabRow w A n f) :
 Calls Tryz.prog 133 #[.slice A n c, .string name] w fun e w' => e = .returned (.string (La.get f name n 0)) ∧ Below w.heap.size w w' := by
 unfold maxLen at hn
 have HA := Lib.hid hA; clear hA
 generalize hr : La.get f name n 0 = r
 have HR := Lib.hid hr; clear hr
 go_enter Tryz.func133, Tryz.ntmps133
 go_wp2_with fail
 go_loopw [9] (fun i wr => ∃ k : Nat, k ≤ n ∧ i = .int .i64 k ∧ La.get f name (n - k) k = r ∧ Below w.heap.size w wr) (fun i _ => n - (intOf i).toNat)
 case atStart => exact ⟨0, by omega, rfl, HR.out, Below.refl _ _⟩
 case round =>
  obtain ⟨k, hk, rfl, hg, hb⟩ := hrel
  have HB := Lib.hid hb; clear hb
  by_cases hlt : k < n
  · obtain ⟨ad, rfl, c0, c1⟩ := HA.out.at_ HB.out hlt
    rw [show n - k = (n - (k + 1)) + 1 from by omega, La.get] at hg
    have HG := Lib.hid hg; clear hg
    have HBA := Lib.hid (HB.out.alloc HB.out.size (.cells #[.string (f k).1, .string (f k).2] 37))
    have hbe := str_beq (f k).1 name
    obtain ⟨x, hx⟩ : ∃ x, (f k).1 = x := ⟨_, rfl⟩
    obtain ⟨y, hy⟩ : ∃ y, (f k).2 = y := ⟨_, rfl⟩
    rw [hx] at c0 HBA HG hbe
    rw [hy] at c1 HBA HG
    clear hx hy
    by_cases he : x = name
    · have hb : (x.toList == name.toList) = true := by rw [hbe]; simpa using he
      have HE := Lib.hid he; clear he hbe
      go_wp2_with fail
      go_ret
      refine ⟨?_, HBA.out⟩
      have := HG.out
      rw [if_pos HE.out] at this
      rw [this]; rfl
    · have hb : (x.toList == name.toList) = false := by rw [hbe]; simpa using he
      have HE := Lib.hid he; clear he hbe
      go_wp2_with fail
      go_roundw
      case rel =>
       have := HG.out
       rw [if_neg HE.out] at this
       exact ⟨k + 1, by omega, by go_num, this, HBA.out⟩
      case measure => simp [intOf]; omega
  · obtain rfl : k = n := by omega
    rw [Nat.sub_self] at hg
    have HG := Lib.hid hg; clear hg
    go_wp2_with fail
    go_ret
    refine ⟨?_, HB.out⟩
    rw [← HG.out]; rfl
theorem run_part_str {P : Program} (w : World) (e : TypeId) (he : P.underlying e = some .string) (cs : Array Value) (j : Nat) (v : Value) (hv : cs[j]? = some v) : (part e cs j).run P w = .ok v w := by
 have hagg : (isAgg e).run P w = .ok false w := by
  unfold isAgg
  rw [Sem.run_bind, run_underlying he w]
  simp
 simp [part, Sem.run_bind, hagg, hv]
theorem lab_fields : Tryz.prog.underlying 37 = some (.struct (Tryz.prog.fieldsOf 37)) := by kernel_rfl
theorem run_equal_lab (w : World) (x y z u : ByteArray) : (Op.equalIn 10000 37 (.agg #[.string x, .string y]) (.agg #[.string z, .string u])).run Tryz.prog w = .ok ((x.toList == z.toList) && (y.toList == u.toList)) w := by
 rw [run_equalIn_struct w 9999 37 _ _ lab_fields (by kernel_rfl)]
 have hf : (Tryz.prog.fieldsOf 37).toList = [⟨"Name", 9, 0, false, "", "", 0⟩, ⟨"Value", 9, 1, false, "", "", 16⟩] := by kernel_rfl
 rw [hf]
 have hp := fun (cs : Array Value) (j : Nat) (v : Value) (hv : cs[j]? = some v) => run_part_str (P := Tryz.prog) w 9 Tryz.underlying9 cs j v hv
 have p0 := hp #[.string x, .string y] 0 (.string x) rfl
 have p1 := hp #[.string x, .string y] 1 (.string y) rfl
 have q0 := hp #[.string z, .string u] 0 (.string z) rfl
 have q1 := hp #[.string z, .string u] 1 (.string u) rfl
 have e0 := run_equalIn_string (P := Tryz.prog) w 9998 9 x z Tryz.underlying9
 have e1 := run_equalIn_string (P := Tryz.prog) w 9998 9 y u Tryz.underlying9
 simp only [Op.eqFields, ne_eq, String.reduceEq, not_false_eq_true, if_true, Sem.run_bind, p0, q0, e0, Result.andThen_ok]
 cases h0 : (x.toList == z.toList) <;> cases h1 : (y.toList == u.toList) <;> simp [Sem.run_bind, p1, q1, e1, h1]
namespace La
def same (f g : Nat → Lab) (n : Nat) : Bool := (List.range n).all (fun i => decide (f i = g i))
end La
set_option maxRecDepth 100000 in
set_option maxHeartbeats 1000000 in
theorem Same_any (A B : Option Addr) (n m c d : Nat) (hn : n ≤ maxLen) (f g : Nat → Lab) (w : World) (hA : LabRow w A n f) (hB : LabRow w B m g) :
 Calls Tryz.prog 50 #[.slice A n c, .slice B m d] w fun e w' => e = .returned (.bool (decide (n = m) && La.same f g n)) ∧ Below w.heap.size w w' := by
 unfold maxLen at hn
 have HA := Lib.hid hA; have HB := Lib.hid hB; clear hA hB
 by_cases hnm : n = m
 · subst hnm
   rw [decide_eq_true rfl, Bool.true_and]
   generalize hr : La.same f g n = r
   have HR := Lib.hid hr; clear hr
   go_enter Tryz.func50, Tryz.ntmps50
   go_wp2_with fail
   go_loopw [13] (fun i wr => ∃ k : Nat, k ≤ n ∧ i = .int .i64 k ∧ La.same f g k = true ∧ Below w.heap.size w wr) (fun i _ => n - (intOf i).toNat)
   case atStart => exact ⟨0, by omega, rfl, rfl, Below.refl _ _⟩
   case round =>
    obtain ⟨k, hk, rfl, hs, hb⟩ := hrel
    have HBL := Lib.hid hb; have HS := Lib.hid hs; clear hb hs
    by_cases hlt : k < n
    · obtain ⟨ad, rfl, c0, c1⟩ := HA.out.at_ HBL.out hlt
      obtain ⟨bd, rfl, e0, e1⟩ := HB.out.at_ HBL.out hlt
      have i1 : (k : Int) < (n : Int) := by omega
      have i0 : (0 : Int) ≤ (k : Int) := by omega
      generalize hfk : f k = fk at *
      generalize hgk : g k = gk at *
      obtain ⟨x, y⟩ := fk
      obtain ⟨z, u⟩ := gk
      have HF := Lib.hid hfk; have HGk := Lib.hid hgk; clear hfk hgk
      have hel := fun W => run_equal_lab W x y z u
      have heg : Tryz.prog.eqGuardType Tryz.prog.depth 37 = false := by kernel_rfl
      have hb1 := str_beq x z
      have hb2 := str_beq y u
      by_cases q1 : x = z
      · have r1 : (x.toList == z.toList) = true := by rw [hb1]; simpa using q1
        by_cases q2 : y = u
        · have r2 : (y.toList == u.toList) = true := by rw [hb2]; simpa using q2
          clear hb1 hb2
          have Q1 := Lib.hid q1; have Q2 := Lib.hid q2; clear q1 q2
          go_wp2_with fail
          go_quiet (fail)
          go_wp2_with fail
          go_roundw
          case rel =>
           refine ⟨k + 1, by omega, by go_num, ?_, below_drewN HBL.out _⟩
           unfold La.same
           rw [La.range_all_succ]
           have hs := HS.out
           unfold La.same at hs
           rw [hs, HF.out, HGk.out, Q1.out, Q2.out]
           simp
          case measure => simp [intOf]; omega
        · have r2 : (y.toList == u.toList) = false := by rw [hb2]; simpa using q2
          clear hb1 hb2
          have Q1 := Lib.hid q1; have Q2 := Lib.hid q2; clear q1 q2
          go_wp2_with fail
          go_quiet (fail)
          go_wp2_with fail
          go_ret
          refine ⟨?_, below_drewN HBL.out _⟩
          have hno : La.same f g n = false := by
           unfold La.same
           rw [List.all_eq_false]
           exact ⟨k, List.mem_range.2 hlt, by rw [HF.out, HGk.out]; have q := Q2.out; simp [q]⟩
          rw [← HR.out, hno]; rfl
      · have r1 : (x.toList == z.toList) = false := by rw [hb1]; simpa using q1
        clear hb1 hb2
        have Q1 := Lib.hid q1; clear q1
        go_wp2_with fail
        go_quiet (fail)
        go_wp2_with fail
        go_ret
        refine ⟨?_, below_drewN HBL.out _⟩
        have hno : La.same f g n = false := by
         unfold La.same
         rw [List.all_eq_false]
         exact ⟨k, List.mem_range.2 hlt, by rw [HF.out, HGk.out]; have q := Q1.out; simp [q]⟩
        rw [← HR.out, hno]; rfl
    · obtain rfl : k = n := by omega
      go_wp2_with fail
      go_ret
      refine ⟨?_, HBL.out⟩
      rw [← HR.out, HS.out]; rfl
 · rw [decide_eq_false hnm, Bool.false_and]
   have hd : ((n : Int) != (m : Int)) = true := by rw [bne_iff_ne]; omega
   clear hnm
   go_enter Tryz.func50, Tryz.ntmps50
   go_wp2_with fail
   go_ret
   exact ⟨rfl, Below.refl _ _⟩
end Go.Proofs.YtliobahnekohmaaGreat
/-
  What the functions of package label come to: Of.
-/
namespace Go.Proofs.YtliobahnekohmaaGreat
open Go.RowKit
namespace La
def at_ (L : List Lab) (i : Nat) : Lab := L.getD i (ByteArray.empty, ByteArray.empty)
def rightL (L : List Lab) : Bool := right (at_ L) L.length
end La
end Go.Proofs.YtliobahnekohmaaGreat
/-
  What the functions of package label come to: Show.
-/
namespace Go.Proofs.YtliobahnekohmaaGreat
open Go.RowKit
namespace La
end La
end Go.Proofs.YtliobahnekohmaaGreat
/-
  What the functions of package label come to: Read.
-/
namespace Go.Proofs.YtliobahnekohmaaGreat
open Go.RowKit
namespace La
theorem size_mk (l : List UInt8) : (⟨l.toArray⟩ : ByteArray).size = l.length := by rw [Lib.size_eq]
theorem right_sizes (L : List Lab) (h : rightL L = true) : L.length ≤ 6 ∧ ∀ i, i < L.length → (at_ L i).1.size ≤ 300 ∧ (at_ L i).2.size ≤ 300 := by
 unfold rightL right at h
 rw [Bool.and_eq_true, decide_eq_true_eq] at h
 refine ⟨h.1.2, fun i hi => ?_⟩
 have := List.all_eq_true.1 h.2 i (List.mem_range.2 hi)
 unfold okAt okName okValue at this
 simp only [Bool.and_eq_true] at this
 obtain ⟨⟨⟨h1, _⟩, h2⟩, _⟩ := this
 have := allB_pos h1; have := allB_pos h2
 omega
end La
end Go.Proofs.YtliobahnekohmaaGreat
