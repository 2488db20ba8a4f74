/-
  What the small functions of package bits come to: low, width, pieces.
-/
import Derived.Test.YtfgcgjogaaofdaaGreatDoorBase
import Derived.Test.YtfgcgjogaaofdaaGreatDoorRangeV
import Derived.Test.YtfgcgjogaaofdaaGreatDoorBitM
import Derived.RangeFuncBound
import Derived.Shelf.Abstract
import Derived.Shelf.RegionOpen
import Derived.OwnWalkIn
import Derived.TacticsInMore
import Derived.LoopNIn
import Derived.LoopIn
namespace Go.Proofs.YtfgcgjogaaofdaaGreatDoor
open Go.RowKit Go.Shelf
attribute [local go_sem] Oper.semAt_some

theorem Bit.two_pow_le {m k : Nat} (h : m ≤ k) : 2 ^ m ≤ 2 ^ k := Nat.pow_le_pow_right (by decide) h
theorem Bit.low_eq (v m : Nat) (hv : v < 18446744073709551616) (hm : m ≤ 8) : bits BinOp.and .u64 (v : Int) (IntKind.u64.wrap (IntKind.u64.wrap (2 ^ m) - 1)) = ((v % 2 ^ m : Nat) : Int) := by
  have h1 : 2 ^ m ≤ 2 ^ 8 := Bit.two_pow_le hm
  have h2 := Nat.two_pow_pos m
  have e1 : IntKind.u64.wrap (2 ^ m) = ((2 ^ m : Nat) : Int) := by
    have e : ((2 : Int) ^ m) = ((2 ^ m : Nat) : Int) := by rw [Int.natCast_pow]; rfl
    rw [IntKind.wrap_u64, e]
    exact Int.emod_eq_of_lt (by omega) (by omega)
  have e2 : IntKind.u64.wrap (((2 ^ m : Nat) : Int) - 1) = ((2 ^ m - 1 : Nat) : Int) := by rw [IntKind.wrap_u64]; omega
  rw [e1, e2, u64_and_nat _ _ hv (by omega), Nat.and_two_pow_sub_one_eq_mod]

set_option maxRecDepth 100000 in
theorem low_any (v m : Nat) (hv : Hid (v < 18446744073709551616)) (hm : m ≤ 8) (w : World) :
    Calls Tryz.prog 96 #[.int .u64 v, .int .i64 m] w fun e w' => e = .returned (.int .u64 ((v % 2 ^ m : Nat) : Int)) ∧ w' = w := by
  go_enter Tryz.func96, Tryz.ntmps96
  go_wp2_with fail
  go_ret
  exact ⟨ret_int (Bit.low_eq v m hv.out hm), rfl⟩

/-- a number of bits that there are -/
def Bit.wd (n : Int) : Nat := (min (max n 0) 64).toNat
theorem Bit.wd_le (n : Int) : Bit.wd n ≤ 64 := by unfold Bit.wd; omega
theorem width_any (n : Int) (w : World) : Calls Tryz.prog 94 #[.int .i64 n] w fun e w' => e = .returned (.int .i64 (Bit.wd n : Nat)) ∧ w' = w := by
  go_enter Tryz.func94, Tryz.ntmps94
  go_wp2_with fail
  all_goals go_ret
  all_goals (refine ⟨ret_int ?_, rfl⟩; unfold Bit.wd; first | omega | (split at * <;> omega))

theorem pieces_any (p n : Nat) (w : World) : Calls Tryz.prog 95 #[.int .i64 p, .int .i64 n] w fun e w' =>
    e = .returned (.func (.func 102) #[] #[.pointer (some ⟨w.heap.size, 0, none⟩), .pointer (some ⟨w.heap.size + 1, 0, none⟩)]) ∧ w' = (w.alloc (.cells #[.int .i64 p] 3)).alloc (.cells #[.int .i64 n] 3) := by
  go_enter Tryz.func95, Tryz.ntmps95
  go_wp2_with fail
  go_ret
  exact ⟨rfl, rfl⟩

/-- how many bits of a byte are next -/
def Bit.step (e x : Nat) : Nat := min (e - x) (8 - x % 8)
/-- the two boxes of the function that pieces tells -/
def Boxes (b p n : Nat) (W : World) : Prop := W.heap[b]? = some (.cells #[.int .i64 p] 3 (0, 0)) ∧ W.heap[b + 1]? = some (.cells #[.int .i64 n] 3 (0, 0))
theorem Boxes.keep {b p n : Nat} {A B : World} (h : Boxes b p n A) (h0 : B.heap[b]? = A.heap[b]?) (h1 : B.heap[b + 1]? = A.heap[b + 1]?) : Boxes b p n B := ⟨h0.trans h.1, h1.trans h.2⟩
def BoxKeep (b : Nat) (A B : World) : Prop := B.heap[b]? = A.heap[b]? ∧ B.heap[b + 1]? = A.heap[b + 1]?
theorem BoxKeep.trans {b : Nat} {A B C : World} (h : BoxKeep b A B) (k : BoxKeep b B C) : BoxKeep b A C := ⟨k.1.trans h.1, k.2.trans h.2⟩

set_option maxRecDepth 100000 in
set_option maxHeartbeats 1000000 in
theorem pieces_iter (b p n : Nat) (hp : p ≤ 1099511627776) (hn : n ≤ 64) (w : World) (hbx : Boxes b p n w) :
    Iterates Tryz.prog 102 #[.pointer (some ⟨b, 0, none⟩), .pointer (some ⟨b + 1, 0, none⟩)] (fun x : Nat => #[.int .i64 ((x / 8 : Nat) : Int), .int .i64 ((Bit.step (p + n) x : Nat) : Int)]) (fun x => decide (x < p + n)) (fun x => x + Bit.step (p + n) x) (BoxKeep b) p w := by
  intro l J X W hK _ hJ hY h0
  have hB : Boxes b p n W := hbx.keep hK.1 hK.2
  have c1 : W.cell? ⟨b, 0, none⟩ = some (.int .i64 p) := cell_of_row _ _ _ _ _ _ hB.1
  have c2 : W.cell? ⟨b + 1, 0, none⟩ = some (.int .i64 n) := cell_of_row _ _ _ _ _ _ hB.2
  refine callsIn_of_wp Tryz.func102 rfl trivial ?_ rfl
  simp only [Tryz.ntmps102, List.size_toArray, List.length_cons, List.length_nil, Nat.reduceAdd, Nat.reduceSub, Array.replicate_succ, Array.replicate_zero, List.push_toArray, List.append_toArray, List.nil_append, List.cons_append]
  have HB := Lib.hid hB; have HJ0 := Lib.hid h0; clear hB h0 hbx hK
  gi_wp2
  gi_loopw [4] (fun f wr => ∃ x : Nat, f = .int .i64 x ∧ x ≤ p + n ∧ J x wr ∧ Boxes b p n wr) (fun f _ => p + n - (intOf f).toNat)
  case atStart => exact ⟨p, rfl, by omega, HJ0.out, HB.out⟩
  case round =>
    obtain ⟨x, rfl, hx, hj, hb⟩ := hrel
    have c1 : wr.cell? ⟨b, 0, none⟩ = some (.int .i64 p) := cell_of_row _ _ _ _ _ _ hb.1
    have c2 : wr.cell? ⟨b + 1, 0, none⟩ = some (.int .i64 n) := cell_of_row _ _ _ _ _ _ hb.2
    have HBr := Lib.hid hb; have HJr := Lib.hid hj; clear hb hj
    by_cases hlt : x < p + n
    · obtain ⟨fn, tmps, assign, body, hy, hR⟩ := hY x wr HJr.out (by simpa using hlt)
      have e8 : ((x / 8 : Nat) : Int) = (x : Int) / 8 := by omega
      rw [e8] at hy
      clear e8
      have hst : x < x + Bit.step (p + n) x ∧ x + Bit.step (p + n) x ≤ p + n := by unfold Bit.step; omega
      obtain ⟨hs1, hs2⟩ := hst
      have i1 : (x : Int) < (p : Int) + (n : Int) := by omega
      have HJ := Lib.hid hJ
      clear hJ hY
      by_cases hm : p + n - x ≤ 8 - x % 8
      · have es : ((Bit.step (p + n) x : Nat) : Int) = (p : Int) + (n : Int) - (x : Int) := by unfold Bit.step; omega
        rw [es] at hy
        have i2 : (p : Int) + (n : Int) - (x : Int) ≤ 8 - (x : Int) % 8 := by omega
        have ES := Lib.hid es; clear es hm
        gi_wp2
        refine hR.mono ?_
        rintro e W3 (⟨rfl, hJ3, hk3⟩ | ⟨rfl, hx3⟩)
        · have HJ3 := Lib.hid hJ3
          have HB3 := Lib.hid (HBr.out.keep hk3.1 hk3.2)
          clear hJ3 hk3
          gi_wp2
          go_roundw
          case rel => exact ⟨x + Bit.step (p + n) x, by have e := ES.out; congr 1; omega, hs2, HJ3.out, HB3.out⟩
          case measure => have e := ES.out; simp [intOf]; omega
        · have HX3 := Lib.hid hx3; clear hx3
          gi_wp2
          refine bodyPost_ret (results_none rfl _ _ _) rfl ?_
          exact ⟨⟨_, rfl⟩, .inr ⟨x, HX3.out⟩⟩
      · have es : ((Bit.step (p + n) x : Nat) : Int) = 8 - (x : Int) % 8 := by unfold Bit.step; omega
        rw [es] at hy
        have i2 : ¬ (p : Int) + (n : Int) - (x : Int) ≤ 8 - (x : Int) % 8 := by omega
        have ES := Lib.hid es; clear es hm
        gi_wp2
        refine hR.mono ?_
        rintro e W3 (⟨rfl, hJ3, hk3⟩ | ⟨rfl, hx3⟩)
        · have HJ3 := Lib.hid hJ3
          have HB3 := Lib.hid (HBr.out.keep hk3.1 hk3.2)
          clear hJ3 hk3
          gi_wp2
          go_roundw
          case rel => exact ⟨x + Bit.step (p + n) x, by have e := ES.out; congr 1; omega, hs2, HJ3.out, HB3.out⟩
          case measure => have e := ES.out; simp [intOf]; omega
        · have HX3 := Lib.hid hx3; clear hx3
          gi_wp2
          refine bodyPost_ret (results_none rfl _ _ _) rfl ?_
          exact ⟨⟨_, rfl⟩, .inr ⟨x, HX3.out⟩⟩
    · have i1 : ¬ (x : Int) < (p : Int) + (n : Int) := by omega
      gi_wp2
      go_end0
      exact ⟨⟨_, rfl⟩, .inl ⟨x, by simpa using hlt, HJr.out⟩⟩
end Go.Proofs.YtfgcgjogaaofdaaGreatDoor
