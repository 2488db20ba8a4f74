import Derived.Test.YtliobahnekohmaaGreatIwA
import Derived.Test.YtliobahnekohmaaGreatLaG
import Derived.Test.YtliobahnekohmaaGreatMaC
import Derived.Test.YtliobahnekohmaaGreatRangeN
import Derived.Test.YtliobahnekohmaaGreatIxN
import Derived.Laws.StructEq
/-
  Whether a label is one of some, and the places of entries that have it.
-/
namespace Go.Proofs.YtliobahnekohmaaGreat
open Go.RowKit
namespace Ix
def hasN (f : Nat → Lab) (x : Lab) (n : Nat) : Bool := (List.range n).any fun i => decide (f i = x)
theorem hasN_yes {f : Nat → Lab} {x : Lab} {n k : Nat} (hk : k < n) (h : f k = x) : hasN f x n = true :=
 List.any_eq_true.2 ⟨k, List.mem_range.2 hk, decide_eq_true h⟩
theorem hasN_no {f : Nat → Lab} {x : Lab} {n : Nat} (h : ∀ i, i < n → f i ≠ x) : hasN f x n = false := by
 rw [Bool.eq_false_iff]
 intro hh
 obtain ⟨i, hi, e⟩ := List.any_eq_true.1 hh
 exact h i (List.mem_range.1 hi) (of_decide_eq_true e)
theorem hasN_list (l : List Lab) (x : Lab) : hasN (La.at_ l) x l.length = l.any fun y => decide (y = x) := by
 rw [Bool.eq_iff_iff]
 unfold hasN
 rw [List.any_eq_true, List.any_eq_true]
 constructor
 · rintro ⟨i, hi, e⟩
   have hi := List.mem_range.1 hi
   refine ⟨l[i], List.getElem_mem hi, ?_⟩
   have : La.at_ l i = l[i] := by unfold La.at_; simp [List.getD, hi]
   rwa [this] at e
 · rintro ⟨y, hy, e⟩
   obtain ⟨i, hi, rfl⟩ := List.getElem_of_mem hy
   refine ⟨i, List.mem_range.2 hi, ?_⟩
   have : La.at_ l i = l[i] := by unfold La.at_; simp [List.getD, hi]
   rwa [this]
end Ix
set_option maxRecDepth 100000 in
set_option maxHeartbeats 1000000 in
theorem lIndex_any (A : Option Addr) (n c : Nat) (hn : n ≤ 1000) (f : Nat → Lab) (x : Lab) (w : World) (hA : LabRow w A n f) :
 Calls Tryz.prog 122 #[.slice A n c, .agg #[.string x.1, .string x.2]] w fun e w' => ∃ j : Int, e = .returned (.int .i64 j) ∧ decide (0 ≤ j) = Ix.hasN f x n ∧ Below w.heap.size w w' := by
 have HA := Lib.hid (hA.later ((Below.refl w.heap.size w).alloc (Nat.le_refl _) (.cells #[.string x.1, .string x.2] 37)))
 have HB := Lib.hid ((Below.refl w.heap.size w).alloc (Nat.le_refl _) (.cells #[.string x.1, .string x.2] 37))
 obtain ⟨w1, hw1⟩ : ∃ w1, w1 = w.alloc (.cells #[.string x.1, .string x.2] 37) := ⟨_, rfl⟩
 have hc : w1.heap[w.heap.size]? = some (.cells #[.string x.1, .string x.2] 37 (0, 0)) := by rw [hw1]; exact heap_alloc_new w _
 have hz : w.heap.size < w1.heap.size := by rw [hw1]; simp
 have HC := Lib.hid hc; have HZ := Lib.hid hz
 rw [← hw1] at HA HB
 have heg : Tryz.prog.eqGuardType Tryz.prog.depth 37 = false := by kernel_rfl
 clear hA hc hz
 go_enter Tryz.func122, Tryz.ntmps122
 go_wp2_with fail
 rw [← hw1]
 clear hw1
 go_loopw [5, 8] (fun _ i wr => ∃ k : Nat, k ≤ n ∧ i = .int .i64 k ∧ (∀ i, i < k → f i ≠ x) ∧ DrewOf w1 wr) (fun _ i _ => n - (intOf i).toNat)
 case atStart => exact ⟨0, by omega, rfl, fun i hi => by omega, ⟨0, rfl⟩⟩
 case round =>
  obtain ⟨k, hk, rfl, hall, q, rfl⟩ := hrel
  have HL := Lib.hid hall; clear hall
  by_cases hlt : k < n
  · obtain ⟨ad, rfl, x0, x1⟩ := HA.out.at_ (Below.refl _ _) hlt
    have z0 : w1.cell? ⟨w.heap.size, 0, none⟩ = some (.string x.1) := cell_of_row _ _ _ _ _ _ HC.out
    have z1 : w1.cell? ⟨w.heap.size, 1, none⟩ = some (.string x.2) := cell_of_row _ _ _ _ _ _ HC.out
    have i1 : (k : Int) < (n : Int) := by omega
    have i0 : (0 : Int) ≤ (k : Int) := by omega
    have d1 : decide ((k : Int) < (n : Int)) = true := decide_eq_true i1
    by_cases he : f k = x
    · have hel : ∀ W, (Op.equalIn 10000 37 (.agg #[.string x.1, .string x.2]) (.agg #[.string (f k).1, .string (f k).2])).run Tryz.prog W = .ok true W := fun W => by
       rw [run_equal_lab, he, beq_self_eq_true, beq_self_eq_true]; rfl
      have HR := Lib.hid (Ix.hasN_yes hlt he)
      clear he HL
      generalize (f k).1 = t at *
      generalize (f k).2 = u at *
      go_wp2_with fail
      go_quiet (fail)
      go_wp2_with fail
      go_ret
      exact ⟨(k : Int), rfl, by rw [HR.out]; exact decide_eq_true i0, HB.out.grown (DrewOf.grown ⟨_, World.drewN_drewN _ _ _⟩ none) HB.out.size (fun r (e : none = some r) => by cases e)⟩
    · have hel : ∀ W, (Op.equalIn 10000 37 (.agg #[.string x.1, .string x.2]) (.agg #[.string (f k).1, .string (f k).2])).run Tryz.prog W = .ok false W := fun W => by
       rw [run_equal_lab, str_beq, str_beq]
       have : (decide (x.1 = (f k).1) && decide (x.2 = (f k).2)) = false := by
        rw [Bool.eq_false_iff]
        intro h
        rw [Bool.and_eq_true] at h
        exact he (Prod.ext (of_decide_eq_true h.1).symm (of_decide_eq_true h.2).symm)
       rw [this]
      have HN : Hid (∀ i, i < k + 1 → f i ≠ x) := Lib.hid (fun i hi => by
       by_cases e : i = k
       · rw [e]; exact he
       · exact HL.out i (by omega))
      clear he HL
      generalize (f k).1 = t at *
      generalize (f k).2 = u at *
      go_wp2_with fail
      go_quiet (fail)
      go_wp2_with fail
      go_roundw
      case rel => exact ⟨k + 1, by omega, by go_num, HN.out, _, rfl⟩
      case measure => simp [intOf]; omega
  · obtain rfl : k = n := by omega
    have d1 : decide ((k : Int) < (k : Int)) = false := by simp
    have HR : Hid (Ix.hasN f x k = false) := Lib.hid (Ix.hasN_no HL.out)
    go_wp2_with fail
    go_ret
    exact ⟨-1, rfl, by rw [HR.out]; rfl, HB.out.grown (DrewOf.grown ⟨q, rfl⟩ none) HB.out.size (fun r e => by cases e)⟩
set_option maxRecDepth 100000 in
theorem lContains_any (A : Option Addr) (n c : Nat) (hn : n ≤ 1000) (f : Nat → Lab) (x : Lab) (w : World) (hA : LabRow w A n f) :
 Calls Tryz.prog 89 #[.slice A n c, .agg #[.string x.1, .string x.2]] w fun e w' => e = .returned (.bool (Ix.hasN f x n)) ∧ Below w.heap.size w w' := by
 have hb1 := (Below.refl w.heap.size w).alloc (Nat.le_refl _) (.cells #[.string x.1, .string x.2] 37)
 have HI := Lib.hid (lIndex_any A n c hn f x _ (hA.later hb1))
 have HB := Lib.hid hb1
 clear hA hb1
 generalize Ix.hasN f x n = r at *
 go_enter Tryz.func89, Tryz.ntmps89
 go_wp2_with fail
 refine HI.out.mono ?_; rintro e w2 ⟨j, rfl, hj, hb2⟩
 have HB2 := Lib.hid (below_step HB.out hb2); clear hb2
 go_wp2_with fail
 go_ret
 exact ⟨by rw [← hj]; rfl, HB2.out⟩
end Go.Proofs.YtliobahnekohmaaGreat
/-
  The places of entries that have a label: the function that hands them on.
-/
namespace Go.Proofs.YtliobahnekohmaaGreat
open Go.RowKit Go.Shelf
attribute [local go_sem] Oper.semAt_some
structure XIn (w0 : World) (g : Nat) (v : Value) (C : Array Value) (tv tf : TypeId) (W : World) : Prop where
 low : w0.heap.size ≤ g
 bel : Below w0.heap.size w0 W
 b1 : W.heap[g]? = some (.cells #[v] tv (0, 0))
 b2 : W.heap[g + 1]? = some (.cells C tf (0, 0))
section
variable {w0 : World} {g : Nat} {v : Value} {C : Array Value} {tv tf : TypeId} {A B : World}
theorem XIn.keep (h : XIn w0 g v C tv tf A) (k : PKeep w0.heap.size g A B) : XIn w0 g v C tv tf B := ⟨h.low, h.bel.trans k.1, k.2.1.trans h.b1, k.2.2.trans h.b2⟩
theorem XIn.later (h : XIn w0 g v C tv tf A) (hb : Below A.heap.size A B) : XIn w0 g v C tv tf B := ⟨h.low, h.bel.trans (hb.mono h.bel.size), heap_keep h.b1 hb, heap_keep h.b2 hb⟩
theorem XIn.box (h : XIn w0 g v C tv tf A) : A.cell? ⟨g, 0, none⟩ = some v := cell_of_row _ _ _ _ _ _ h.b1
end
def hasE (q : Nat → EAt) (x : Lab) (i : Nat) : Bool := Ix.hasN (La.at_ (q i).e.l) x (q i).e.l.length
theorem postings_any (A : Option Addr) (n c : Nat) (x : Lab) (w : World) : Calls Tryz.prog 54 #[.slice A n c, .agg #[.string x.1, .string x.2]] w fun e w' =>
 e = .returned (.func (.func 88) #[] #[.pointer (some ⟨w.heap.size, 0, none⟩), .pointer (some ⟨w.heap.size + 1, 0, none⟩)]) ∧ w' = (w.alloc (.cells #[.slice A n c] 22)).alloc (.cells #[.string x.1, .string x.2] 37) := by
 go_enter Tryz.func54, Tryz.ntmps54
 go_wp2_with fail
 go_ret
 exact ⟨rfl, rfl⟩
set_option maxRecDepth 100000 in
set_option maxHeartbeats 2000000 in
theorem postings_hands (w0 : World) (A : Option Addr) (n c : Nat) (q : Nat → EAt) (hA : EntsIn w0 A n q) (x : Lab)
 (g : Nat) (w : World) (hbx : XIn w0 g (.slice A n c) #[.string x.1, .string x.2] 22 37 w) :
 Hands Tryz.prog 88 #[.pointer (some ⟨g, 0, none⟩), .pointer (some ⟨g + 1, 0, none⟩)] (fun s : Nat => #[.int .i64 s]) (fun s => decide (s < n)) (fun s => Ma.nw (hasE q x) n (s + 1)) (PKeep w0.heap.size g) (Ma.nw (hasE q x) n 0) w := by
 intro l J W hK _ hJ hY h0
 have hn := hA.len
 have hB := hbx.keep hK
 have b1 := hB.box
 refine callsIn_of_wp Tryz.func88 rfl trivial ?_ rfl
 simp only [Tryz.ntmps88, List.size_toArray, List.length_cons, List.length_nil, Nat.reduceAdd, Nat.reduceSub, Array.replicate_succ, Array.replicate_zero, List.push_toArray, List.append_toArray, List.nil_append, List.cons_append]
 have HB := Lib.hid hB; have HJ0 := Lib.hid h0; have HA := Lib.hid hA; clear hB h0 hbx hK hA
 have HJ := Lib.hid hJ; have HY := Lib.hid hY; clear hJ hY
 gi_wp2_with fail
 gi_loopw [4, 8] (fun _ i wr => ∃ p : Nat, p ≤ n ∧ i = .int .i64 p ∧ J (Ma.nw (hasE q x) n p) wr ∧ XIn w0 g (.slice A n c) #[.string x.1, .string x.2] 22 37 wr) (fun _ i _ => n - (intOf i).toNat)
 case atStart => exact ⟨0, Nat.zero_le _, rfl, HJ0.out, HB.out⟩
 case round =>
  obtain ⟨p, hp, rfl, hj, hb⟩ := hrel
  have HBr := Lib.hid hb; have HJr := Lib.hid hj; clear hb hj
  clear b1
  by_cases hlt : p < n
  · have i1 : (p : Int) < (n : Int) := by omega
    have i0 : (0 : Int) ≤ (p : Int) := by omega
    have dd1 : decide ((p : Int) < (n : Int)) = true := decide_eq_true i1
    obtain ⟨ad, rfl, x0, x1, x2, x3⟩ := HA.out.cells HBr.out.bel hlt
    have hb5 : Below wr.heap.size wr (wr.alloc (.cells (entC (q p)) 59)) := (Below.refl _ _).alloc (Nat.le_refl _) _
    have hS := HBr.out.later hb5
    have hJ5 := HJ.out _ _ _ HJr.out (grown_of_below hb5)
    have HC := Lib.hid (lContains_any (q p).A (q p).e.l.length (q p).c (by have := (HA.out.each p hlt).len; omega) (La.at_ (q p).e.l) x _ ((HA.out.each p hlt).row.later (hS.bel)))
    have hhas : Ix.hasN (La.at_ (q p).e.l) x (q p).e.l.length = hasE q x p := rfl
    rw [hhas] at HC
    unfold entC at hS hJ5 HC
    have y0 := cell_of_row _ _ 0 _ _ _ hS.b2; have y1 := cell_of_row _ _ 1 _ _ _ hS.b2
    simp only [List.getElem?_toArray, List.getElem?_cons_zero, List.getElem?_cons_succ] at y0 y1
    have HJ5 := Lib.hid hJ5; have HS := Lib.hid hS
    clear hb5 hS hJ5 hhas HJr HBr HB HJ0
    cases hbp : hasE q x p with
    | false =>
     rw [hbp] at HC
     gi_wp2_with fail
     refine ⟨trivial, (callsIn_wide.2 HC.out).mono ?_⟩
     rintro e w2 ⟨rfl, hb2⟩
     have HS2 := Lib.hid (HS.out.later hb2)
     have hJ2 := HJ.out _ _ _ HJ5.out (grown_of_below hb2)
     rw [Ma.nw_no hlt hbp] at hJ2
     have HJ2 := Lib.hid hJ2
     clear hb2 hJ2 hbp y0 y1 HS HJ5 HC
     gi_wp2_with fail
     refine ⟨fun _ h => (by cases h), ?_⟩
     gi_wp2_with fail
     go_roundw
     case rel => exact ⟨p + 1, by omega, by go_num, HJ2.out, HS2.out⟩
     case measure => simp [intOf]; omega
    | true =>
     rw [hbp] at HC
     gi_wp2_with fail
     refine ⟨trivial, (callsIn_wide.2 HC.out).mono ?_⟩
     rintro e w2 ⟨rfl, hb2⟩
     have HS2 := Lib.hid (HS.out.later hb2)
     have hJ2 := HJ.out _ _ _ HJ5.out (grown_of_below hb2)
     rw [Ma.nw_yes hlt hbp] at hJ2
     have HJ2 := Lib.hid hJ2
     clear hb2 hJ2 hbp y0 y1 HS HJ5 HC
     gi_wp2_with fail
     obtain ⟨fn, tmps, assign, body, hy, hR⟩ := HY.out p w2 HJ2.out (by simpa using hlt)
     rw [hy]
     refine ⟨fun _ => by decide, hR.mono ?_⟩
     rintro e w3 ⟨rfl, hJ3, hk3⟩
     have HS3 := Lib.hid (HS2.out.keep hk3); have HJ3 := Lib.hid hJ3
     clear hk3 hR hy HJ2 HS2 hJ3
     gi_wp2_with fail
     go_roundw
     case rel => exact ⟨p + 1, by omega, by go_num, HJ3.out, HS3.out⟩
     case measure => simp [intOf]; omega
  · obtain rfl : p = n := by omega
    have hje := HJr.out
    rw [Ma.nw_end (Nat.le_refl p)] at hje
    have HJE := Lib.hid hje; clear hje
    have dd1 : decide ((p : Int) < (p : Int)) = false := decide_eq_false (by omega)
    gi_wp2_with fail
    go_end0
    exact ⟨⟨_, rfl⟩, p, by simp, HJE.out⟩
end Go.Proofs.YtliobahnekohmaaGreat
