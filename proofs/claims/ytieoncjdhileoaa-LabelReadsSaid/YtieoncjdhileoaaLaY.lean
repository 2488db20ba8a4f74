/-
  Labels: what the reference Right comes to.
-/
import Derived.Test.YtieoncjdhileoaaLaX
namespace Go.Proofs.Ytieoncjdhileoaa
open Go.RowKit
variable {P : Program} {ops : Array Oper}
theorem PickOk.skip {S : World → Prop} {K : Act → Prop} {i : Nat} {r : List Nat} {a : Act} {o : Oper} {d : Option Tmp} (ho : ops[i]? = some o) (hd : o.dst = d) (hw : Region.wanted o (yielded ops a.tmps) = false)
    (h : PickOk P ops S K r (a.put d undef)) : PickOk P ops S K (i :: r) a := by
  subst hd
  exact ⟨o, undef, ho, .inr ⟨hw, rfl⟩, h⟩

set_option maxRecDepth 100000 in
set_option maxHeartbeats 2000000 in
theorem rRight_any (A : Option Addr) (n c : Nat) (hn : n ≤ maxLen) (f : Nat → Lab) (hs : ∀ i, i < n → (f i).1.size ≤ maxLen ∧ (f i).2.size ≤ maxLen) (w : World) (hA : LabRow w A n f) :
    Calls Try.prog 13 #[.slice A n c] w fun e w' => e = .returned (.bool (La.right f n)) ∧ Below w.heap.size w w' := by
  unfold maxLen at hn
  have HA := Lib.hid hA; have HSZ := Lib.hid hs; clear hA hs
  by_cases hn1 : n < 1
  · have d1 : decide ((n : Int) < 1) = true := by simp; omega
    have hr : La.right f n = false := by unfold La.right; rw [decide_eq_false (by omega), Bool.false_and]
    rw [hr]; clear hr
    go_enter Try.func13, Try.ntmps13
    go_wp2_with fail
    go_ret
    exact ⟨rfl, Below.refl _ _⟩
  have d1 : decide ((n : Int) < 1) = false := by simp; omega
  by_cases hn6 : 6 < n
  · have d2 : decide ((6 : Int) < (n : Int)) = true := by simp; omega
    have hr : La.right f n = false := by unfold La.right; rw [decide_eq_false (by omega), Bool.false_and]
    rw [hr]; clear hr
    go_enter Try.func13, Try.ntmps13
    go_wp2_with fail
    go_ret
    exact ⟨rfl, Below.refl _ _⟩
  have d2 : decide ((6 : Int) < (n : Int)) = false := by simp; omega
  have hno0 : ∀ k, k < n → La.okAt f k = false → La.right f n = false := fun k hk h => La.right_no f n k hk h
  have hyes0 : (List.range n).all (La.okAt f) = true → La.right f n = true := fun h => La.right_yes f n (by omega) (by omega) h
  generalize La.right f n = r at *
  have HN0 := Lib.hid hno0; have HY0 := Lib.hid hyes0; clear hno0 hyes0
  go_enter Try.func13, Try.ntmps13
  go_wp2_with fail
  go_loopw [3] (fun i wr => ∃ k : Nat, k ≤ n ∧ i = .int .i64 k ∧ (List.range k).all (La.okAt f) = true ∧ Below w.heap.size w wr) (fun i _ => n - (intOf i).toNat)
  case atStart => exact ⟨0, by omega, rfl, rfl, Below.refl _ _⟩
  case round =>
    obtain ⟨k, hk, rfl, hall, hb⟩ := hrel
    have HB := Lib.hid hb; clear hb
    by_cases hlt : k < n
    · obtain ⟨ad, rfl, c0, c1⟩ := HA.out.at_ HB.out hlt
      have hsz := HSZ.out k hlt
      have hno := fun h => HN0.out k hlt h
      have hyes : La.okAt f k = true → (List.range (k + 1)).all (La.okAt f) = true := fun h => by rw [La.range_all_succ, hall, h]; rfl
      have hat : La.okAt f k = ((La.okName (f k).1 && La.okValue (f k).2) && (decide (k = 0) || La.less (f (k - 1)).1 (f k).1)) := rfl
      have hnm := fun W => rName_any (f k).1 hsz.1 W
      have hvl := fun W => rValue_any (f k).2 hsz.2 W
      have hah : ∀ j, k = j + 1 → ∀ W, Calls Try.prog 30 #[.string (f (k - 1)).1, .string (f k).1] W fun e w' => e = .returned (.bool (La.less (f (k - 1)).1 (f k).1)) ∧ Below W.heap.size W w' := fun j hj W => rAhead_any _ _ (HSZ.out (k - 1) (by omega)).1 hsz.1 W
      have hcp : ∀ j, k = j + 1 → ∀ U, Below wr.heap.size wr U → U.cell? (ad.add (j * 2)) = some (.string (f (k - 1)).1) := fun j hj U hU => by
        obtain ⟨ad2, e, x0, _⟩ := HA.out.at_ (i := j) HB.out (by omega)
        cases e
        rw [show k - 1 = j from by omega]
        exact (hU.cell (block_lt_of_cell x0)).trans x0
      have hc0 : ∀ U, Below wr.heap.size wr U → U.cell? (ad.add (k * 2)) = some (.string (f k).1) := fun U hU => (hU.cell (block_lt_of_cell c0)).trans c0
      have hc1 : ∀ U, Below wr.heap.size wr U → U.cell? ⟨(ad.add (k * 2)).block, (ad.add (k * 2)).off + 1, none⟩ = some (.string (f k).2) := fun U hU => (hU.cell (p := ⟨(ad.add (k * 2)).block, (ad.add (k * 2)).off + 1, none⟩) (block_lt_of_cell c1)).trans c1
      have HNO := Lib.hid hno; have HYES := Lib.hid hyes; clear hno hyes hall c0 c1
      generalize La.okAt f k = oa at *
      generalize La.okName (f k).1 = bN at *
      generalize La.okValue (f k).2 = bV at *
      generalize La.less (f (k - 1)).1 (f k).1 = bA at *
      generalize (f (k - 1)).1 = p at *
      generalize (f k).1 = x at *
      generalize (f k).2 = y at *
      have HN := Lib.hid hnm; have HV := Lib.hid hvl; have HC0 := Lib.hid hc0; have HC1 := Lib.hid hc1; have HAH := Lib.hid hah; have HCPJ := Lib.hid hcp
      clear hnm hvl hc0 hc1 hah hcp hsz
      have i1 : (k : Int) < (n : Int) := by omega
      have i0 : (0 : Int) ≤ (k : Int) := by omega
      go_wp2_with fail
      cases bN
      · rw [Bool.false_and, Bool.false_and] at hat
        refine plain_held (fun U => Below wr.heap.size wr U) (by kernel_rfl) ?_
        have hbd : Below wr.heap.size wr wr.drew := Below.drew (Below.refl _ _)
        generalize wr.drew = wd at *
        have HBD := Lib.hid hbd; clear hbd
        refine wpAnyH_pick (by kernel_rfl) Only.panic (w := wd) HBD.out [0, 1, 2, 3, 4] 30 _ _ (by kernel_rfl) ?_
        refine PickOk.value (d := (some 18)) (v := .slice (some ad) n c) rfl rfl (by kernel_rfl) (fun U hU => (by go_simp)) ?_
        refine PickOk.value (d := (some 19)) (v := .int .i64 k) rfl rfl (by kernel_rfl) (fun U hU => (by go_simp)) ?_
        refine PickOk.value (d := (some 20)) (v := .pointer (some (ad.add (k * 2)))) rfl rfl (by kernel_rfl) (fun U hU => (by go_simp)) ?_
        refine PickOk.value (d := (some 21)) (v := .pointer (some (ad.add (k * 2)))) rfl rfl (by kernel_rfl) (fun U hU => (by go_simp)) ?_
        refine PickOk.value (d := (some 22)) (v := .string x) rfl rfl (by kernel_rfl) (fun U hU => (by have := HC0.out U hU; go_simp)) ?_
        simp only [PickOk, Act.put, List.setIfInBounds_toArray, List.set_cons_zero, List.set_cons_succ]
        refine wpAnyH_one (i := 5) (by kernel_rfl) rfl (by kernel_rfl) ?_
        intro K hK
        unfold Oper.wp
        go_simp
        refine (HN.out _).mono ?_; rintro e w4 ⟨rfl, hw4⟩
        have HB4 := Lib.hid (below_step HBD.out hw4); clear hw4
        refine hK _ _ HB4.out (fun _ => ?_)
        clear hK K
        refine wpAnyH_pick (by kernel_rfl) Only.panic (w := w4) HB4.out [6, 7, 8, 9, 10, 11, 12, 13, 14, 15, 16, 17, 18, 19, 20, 21, 22, 23, 24, 25, 26, 27, 28, 29, 30, 31, 32, 33, 34] 0 _ _ (by kernel_rfl) ?_
        refine PickOk.value (d := (some 24)) (v := .bool true) rfl rfl (by kernel_rfl) (fun U hU => (by go_simp)) ?_
        refine PickOk.value (d := (some 25)) (v := .bool true) rfl rfl (by kernel_rfl) (fun U hU => (by go_simp)) ?_
        refine PickOk.skip (d := (some 26)) rfl rfl (by kernel_rfl) ?_
        refine PickOk.skip (d := (some 27)) rfl rfl (by kernel_rfl) ?_
        refine PickOk.skip (d := (some 28)) rfl rfl (by kernel_rfl) ?_
        refine PickOk.skip (d := (some 29)) rfl rfl (by kernel_rfl) ?_
        refine PickOk.skip (d := (some 30)) rfl rfl (by kernel_rfl) ?_
        refine PickOk.skip (d := (some 31)) rfl rfl (by kernel_rfl) ?_
        refine PickOk.skip (d := (some 32)) rfl rfl (by kernel_rfl) ?_
        refine PickOk.value (d := (some 33)) (v := .bool true) rfl rfl (by kernel_rfl) (fun U hU => (by go_simp)) ?_
        refine PickOk.value (d := (some 34)) (v := .bool true) rfl rfl (by kernel_rfl) (fun U hU => (by go_simp)) ?_
        refine PickOk.skip (d := (some 35)) rfl rfl (by kernel_rfl) ?_
        refine PickOk.skip (d := (some 36)) rfl rfl (by kernel_rfl) ?_
        refine PickOk.skip (d := (some 37)) rfl rfl (by kernel_rfl) ?_
        refine PickOk.skip (d := (some 38)) rfl rfl (by kernel_rfl) ?_
        refine PickOk.skip (d := (some 39)) rfl rfl (by kernel_rfl) ?_
        refine PickOk.skip (d := (some 40)) rfl rfl (by kernel_rfl) ?_
        refine PickOk.skip (d := (some 41)) rfl rfl (by kernel_rfl) ?_
        refine PickOk.skip (d := (some 42)) rfl rfl (by kernel_rfl) ?_
        refine PickOk.skip (d := (some 43)) rfl rfl (by kernel_rfl) ?_
        refine PickOk.skip (d := (some 44)) rfl rfl (by kernel_rfl) ?_
        refine PickOk.skip (d := (some 45)) rfl rfl (by kernel_rfl) ?_
        refine PickOk.skip (d := (some 46)) rfl rfl (by kernel_rfl) ?_
        refine PickOk.skip (d := (some 47)) rfl rfl (by kernel_rfl) ?_
        refine PickOk.skip (d := (some 48)) rfl rfl (by kernel_rfl) ?_
        refine PickOk.skip (d := (some 49)) rfl rfl (by kernel_rfl) ?_
        refine PickOk.skip (d := (some 50)) rfl rfl (by kernel_rfl) ?_
        refine PickOk.skip (d := (some 51)) rfl rfl (by kernel_rfl) ?_
        refine PickOk.value (d := (some 52)) (v := .bool true) rfl rfl (by kernel_rfl) (fun U hU => (by go_simp)) ?_
        simp only [PickOk, Act.put, List.setIfInBounds_toArray, List.set_cons_zero, List.set_cons_succ]
        refine wpAnyH_done (by kernel_rfl) ?_ _
        refine Only.mk_ ?_
        go_wp2_with fail
        go_ret
        rw [HNO.out hat]
        exact ⟨rfl, below_step HB.out HB4.out⟩
      cases bV
      · rw [Bool.and_false, Bool.false_and] at hat
        refine plain_held (fun U => Below wr.heap.size wr U) (by kernel_rfl) ?_
        have hbd : Below wr.heap.size wr wr.drew := Below.drew (Below.refl _ _)
        generalize wr.drew = wd at *
        have HBD := Lib.hid hbd; clear hbd
        refine wpAnyH_pick (by kernel_rfl) Only.panic (w := wd) HBD.out [0, 1, 2, 3, 4] 30 _ _ (by kernel_rfl) ?_
        refine PickOk.value (d := (some 18)) (v := .slice (some ad) n c) rfl rfl (by kernel_rfl) (fun U hU => (by go_simp)) ?_
        refine PickOk.value (d := (some 19)) (v := .int .i64 k) rfl rfl (by kernel_rfl) (fun U hU => (by go_simp)) ?_
        refine PickOk.value (d := (some 20)) (v := .pointer (some (ad.add (k * 2)))) rfl rfl (by kernel_rfl) (fun U hU => (by go_simp)) ?_
        refine PickOk.value (d := (some 21)) (v := .pointer (some (ad.add (k * 2)))) rfl rfl (by kernel_rfl) (fun U hU => (by go_simp)) ?_
        refine PickOk.value (d := (some 22)) (v := .string x) rfl rfl (by kernel_rfl) (fun U hU => (by have := HC0.out U hU; go_simp)) ?_
        simp only [PickOk, Act.put, List.setIfInBounds_toArray, List.set_cons_zero, List.set_cons_succ]
        refine wpAnyH_one (i := 5) (by kernel_rfl) rfl (by kernel_rfl) ?_
        intro K hK
        unfold Oper.wp
        go_simp
        refine (HN.out _).mono ?_; rintro e w4 ⟨rfl, hw4⟩
        have HB4 := Lib.hid (below_step HBD.out hw4); clear hw4
        refine hK _ _ HB4.out (fun _ => ?_)
        clear hK K
        refine wpAnyH_pick (by kernel_rfl) Only.panic (w := w4) HB4.out [6, 7, 8, 9, 10, 11, 12] 22 _ _ (by kernel_rfl) ?_
        refine PickOk.value (d := (some 24)) (v := .bool false) rfl rfl (by kernel_rfl) (fun U hU => (by go_simp)) ?_
        refine PickOk.value (d := (some 25)) (v := .bool false) rfl rfl (by kernel_rfl) (fun U hU => (by go_simp)) ?_
        refine PickOk.value (d := (some 26)) (v := .slice (some ad) n c) rfl rfl (by kernel_rfl) (fun U hU => (by go_simp)) ?_
        refine PickOk.value (d := (some 27)) (v := .int .i64 k) rfl rfl (by kernel_rfl) (fun U hU => (by go_simp)) ?_
        refine PickOk.value (d := (some 28)) (v := .pointer (some (ad.add (k * 2)))) rfl rfl (by kernel_rfl) (fun U hU => (by go_simp)) ?_
        refine PickOk.value (d := (some 29)) (v := .pointer (some ⟨(ad.add (k * 2)).block, (ad.add (k * 2)).off + 1, none⟩)) rfl rfl (by kernel_rfl) (fun U hU => (by go_simp)) ?_
        refine PickOk.value (d := (some 30)) (v := .string y) rfl rfl (by kernel_rfl) (fun U hU => (by have := HC1.out U hU; go_simp)) ?_
        simp only [PickOk, Act.put, List.setIfInBounds_toArray, List.set_cons_zero, List.set_cons_succ]
        refine wpAnyH_one (i := 13) (by kernel_rfl) rfl (by kernel_rfl) ?_
        intro K hK
        unfold Oper.wp
        go_simp
        refine (HV.out _).mono ?_; rintro e w5 ⟨rfl, hw5⟩
        have HB5 := Lib.hid (below_step HB4.out hw5); clear hw5
        refine hK _ _ HB5.out (fun _ => ?_)
        clear hK K
        refine wpAnyH_pick (by kernel_rfl) Only.panic (w := w5) HB5.out [14, 15, 16, 17, 18, 19, 20, 21, 22, 23, 24, 25, 26, 27, 28, 29, 30, 31, 32, 33, 34] 0 _ _ (by kernel_rfl) ?_
        refine PickOk.value (d := (some 32)) (v := .bool true) rfl rfl (by kernel_rfl) (fun U hU => (by go_simp)) ?_
        refine PickOk.value (d := (some 33)) (v := .bool true) rfl rfl (by kernel_rfl) (fun U hU => (by go_simp)) ?_
        refine PickOk.value (d := (some 34)) (v := .bool true) rfl rfl (by kernel_rfl) (fun U hU => (by go_simp)) ?_
        refine PickOk.skip (d := (some 35)) rfl rfl (by kernel_rfl) ?_
        refine PickOk.skip (d := (some 36)) rfl rfl (by kernel_rfl) ?_
        refine PickOk.skip (d := (some 37)) rfl rfl (by kernel_rfl) ?_
        refine PickOk.skip (d := (some 38)) rfl rfl (by kernel_rfl) ?_
        refine PickOk.skip (d := (some 39)) rfl rfl (by kernel_rfl) ?_
        refine PickOk.skip (d := (some 40)) rfl rfl (by kernel_rfl) ?_
        refine PickOk.skip (d := (some 41)) rfl rfl (by kernel_rfl) ?_
        refine PickOk.skip (d := (some 42)) rfl rfl (by kernel_rfl) ?_
        refine PickOk.skip (d := (some 43)) rfl rfl (by kernel_rfl) ?_
        refine PickOk.skip (d := (some 44)) rfl rfl (by kernel_rfl) ?_
        refine PickOk.skip (d := (some 45)) rfl rfl (by kernel_rfl) ?_
        refine PickOk.skip (d := (some 46)) rfl rfl (by kernel_rfl) ?_
        refine PickOk.skip (d := (some 47)) rfl rfl (by kernel_rfl) ?_
        refine PickOk.skip (d := (some 48)) rfl rfl (by kernel_rfl) ?_
        refine PickOk.skip (d := (some 49)) rfl rfl (by kernel_rfl) ?_
        refine PickOk.skip (d := (some 50)) rfl rfl (by kernel_rfl) ?_
        refine PickOk.skip (d := (some 51)) rfl rfl (by kernel_rfl) ?_
        refine PickOk.value (d := (some 52)) (v := .bool true) rfl rfl (by kernel_rfl) (fun U hU => (by go_simp)) ?_
        simp only [PickOk, Act.put, List.setIfInBounds_toArray, List.set_cons_zero, List.set_cons_succ]
        refine wpAnyH_done (by kernel_rfl) ?_ _
        refine Only.mk_ ?_
        go_wp2_with fail
        go_ret
        rw [HNO.out hat]
        exact ⟨rfl, below_step HB.out HB5.out⟩
      rw [Bool.and_self, Bool.true_and] at hat
      rcases Nat.eq_zero_or_pos k with hk0 | hkp
      · rw [decide_eq_true hk0, Bool.true_or] at hat
        have g1 : decide ((0 : Int) < (k : Int)) = false := by simp; omega
        have g2 : decide (0 < k) = false := by simp; omega
        have HK0 := Lib.hid hk0; clear hk0
        refine plain_held (fun U => Below wr.heap.size wr U) (by kernel_rfl) ?_
        have hbd : Below wr.heap.size wr wr.drew := Below.drew (Below.refl _ _)
        generalize wr.drew = wd at *
        have HBD := Lib.hid hbd; clear hbd
        refine wpAnyH_pick (by kernel_rfl) Only.panic (w := wd) HBD.out [0, 1, 2, 3, 4] 30 _ _ (by kernel_rfl) ?_
        refine PickOk.value (d := (some 18)) (v := .slice (some ad) n c) rfl rfl (by kernel_rfl) (fun U hU => (by go_simp)) ?_
        refine PickOk.value (d := (some 19)) (v := .int .i64 k) rfl rfl (by kernel_rfl) (fun U hU => (by go_simp)) ?_
        refine PickOk.value (d := (some 20)) (v := .pointer (some (ad.add (k * 2)))) rfl rfl (by kernel_rfl) (fun U hU => (by go_simp)) ?_
        refine PickOk.value (d := (some 21)) (v := .pointer (some (ad.add (k * 2)))) rfl rfl (by kernel_rfl) (fun U hU => (by go_simp)) ?_
        refine PickOk.value (d := (some 22)) (v := .string x) rfl rfl (by kernel_rfl) (fun U hU => (by have := HC0.out U hU; go_simp)) ?_
        simp only [PickOk, Act.put, List.setIfInBounds_toArray, List.set_cons_zero, List.set_cons_succ]
        refine wpAnyH_one (i := 5) (by kernel_rfl) rfl (by kernel_rfl) ?_
        intro K hK
        unfold Oper.wp
        go_simp
        refine (HN.out _).mono ?_; rintro e w4 ⟨rfl, hw4⟩
        have HB4 := Lib.hid (below_step HBD.out hw4); clear hw4
        refine hK _ _ HB4.out (fun _ => ?_)
        clear hK K
        refine wpAnyH_pick (by kernel_rfl) Only.panic (w := w4) HB4.out [6, 7, 8, 9, 10, 11, 12] 22 _ _ (by kernel_rfl) ?_
        refine PickOk.value (d := (some 24)) (v := .bool false) rfl rfl (by kernel_rfl) (fun U hU => (by go_simp)) ?_
        refine PickOk.value (d := (some 25)) (v := .bool false) rfl rfl (by kernel_rfl) (fun U hU => (by go_simp)) ?_
        refine PickOk.value (d := (some 26)) (v := .slice (some ad) n c) rfl rfl (by kernel_rfl) (fun U hU => (by go_simp)) ?_
        refine PickOk.value (d := (some 27)) (v := .int .i64 k) rfl rfl (by kernel_rfl) (fun U hU => (by go_simp)) ?_
        refine PickOk.value (d := (some 28)) (v := .pointer (some (ad.add (k * 2)))) rfl rfl (by kernel_rfl) (fun U hU => (by go_simp)) ?_
        refine PickOk.value (d := (some 29)) (v := .pointer (some ⟨(ad.add (k * 2)).block, (ad.add (k * 2)).off + 1, none⟩)) rfl rfl (by kernel_rfl) (fun U hU => (by go_simp)) ?_
        refine PickOk.value (d := (some 30)) (v := .string y) rfl rfl (by kernel_rfl) (fun U hU => (by have := HC1.out U hU; go_simp)) ?_
        simp only [PickOk, Act.put, List.setIfInBounds_toArray, List.set_cons_zero, List.set_cons_succ]
        refine wpAnyH_one (i := 13) (by kernel_rfl) rfl (by kernel_rfl) ?_
        intro K hK
        unfold Oper.wp
        go_simp
        refine (HV.out _).mono ?_; rintro e w5 ⟨rfl, hw5⟩
        have HB5 := Lib.hid (below_step HB4.out hw5); clear hw5
        refine hK _ _ HB5.out (fun _ => ?_)
        clear hK K
        refine wpAnyH_pick (by kernel_rfl) Only.panic (w := w5) HB5.out [14, 15, 16, 17, 18, 19, 20, 21, 22, 23, 24, 25, 26, 27, 28, 29, 30, 31, 32, 33, 34] 0 _ _ (by kernel_rfl) ?_
        refine PickOk.value (d := (some 32)) (v := .bool false) rfl rfl (by kernel_rfl) (fun U hU => (by go_simp)) ?_
        refine PickOk.value (d := (some 33)) (v := .bool false) rfl rfl (by kernel_rfl) (fun U hU => (by go_simp)) ?_
        refine PickOk.value (d := (some 34)) (v := .bool false) rfl rfl (by kernel_rfl) (fun U hU => (by go_simp)) ?_
        refine PickOk.value (d := (some 35)) (v := .int .i64 k) rfl rfl (by kernel_rfl) (fun U hU => (by go_simp)) ?_
        refine PickOk.value (d := (some 36)) (v := .bool false) rfl rfl (by kernel_rfl) (fun U hU => (by go_simp)) ?_
        refine PickOk.value (d := (some 37)) (v := .bool false) rfl rfl (by kernel_rfl) (fun U hU => (by go_simp)) ?_
        refine PickOk.skip (d := (some 38)) rfl rfl (by kernel_rfl) ?_
        refine PickOk.skip (d := (some 39)) rfl rfl (by kernel_rfl) ?_
        refine PickOk.skip (d := (some 40)) rfl rfl (by kernel_rfl) ?_
        refine PickOk.skip (d := (some 41)) rfl rfl (by kernel_rfl) ?_
        refine PickOk.skip (d := (some 42)) rfl rfl (by kernel_rfl) ?_
        refine PickOk.skip (d := (some 43)) rfl rfl (by kernel_rfl) ?_
        refine PickOk.skip (d := (some 44)) rfl rfl (by kernel_rfl) ?_
        refine PickOk.skip (d := (some 45)) rfl rfl (by kernel_rfl) ?_
        refine PickOk.skip (d := (some 46)) rfl rfl (by kernel_rfl) ?_
        refine PickOk.skip (d := (some 47)) rfl rfl (by kernel_rfl) ?_
        refine PickOk.skip (d := (some 48)) rfl rfl (by kernel_rfl) ?_
        refine PickOk.skip (d := (some 49)) rfl rfl (by kernel_rfl) ?_
        refine PickOk.skip (d := (some 50)) rfl rfl (by kernel_rfl) ?_
        refine PickOk.value (d := (some 51)) (v := .bool false) rfl rfl (by kernel_rfl) (fun U hU => (by go_simp)) ?_
        refine PickOk.value (d := (some 52)) (v := .bool false) rfl rfl (by kernel_rfl) (fun U hU => (by go_simp)) ?_
        simp only [PickOk, Act.put, List.setIfInBounds_toArray, List.set_cons_zero, List.set_cons_succ]
        refine wpAnyH_done (by kernel_rfl) ?_ _
        refine Only.mk_ ?_
        go_wp2_with fail
        go_roundw
        case rel => exact ⟨k + 1, by omega, by go_num, HYES.out hat, below_step HB.out HB5.out⟩
        case measure => simp [intOf]; omega
      · rw [decide_eq_false (by omega), Bool.false_or] at hat
        have g1 : decide ((0 : Int) < (k : Int)) = true := by simp; omega
        have g2 : decide (0 < k) = true := by simp; omega
        obtain ⟨j, hj⟩ : ∃ j, k = j + 1 := ⟨k - 1, by omega⟩
        have HA2 := Lib.hid (HAH.out j hj); have HCP := Lib.hid (HCPJ.out j hj)
        have hjk : (k : Int) - 1 = (j : Int) := by omega
        have hjw : wrap64 ((k : Int) - 1) = (j : Int) := by simp only [wrap64]; omega
        have hjv : IntKind.i64.wrap (j : Int) = (j : Int) := by rw [IntKind.wrap_i64]; omega
        have HJV := Lib.hid hjv; clear hjv
        have i3 : (j : Int) < (n : Int) := by omega
        have i4 : (0 : Int) ≤ (j : Int) := by omega
        clear hj HAH HCPJ
        cases bA
        · refine plain_held (fun U => Below wr.heap.size wr U) (by kernel_rfl) ?_
          have hbd : Below wr.heap.size wr wr.drew := Below.drew (Below.refl _ _)
          generalize wr.drew = wd at *
          have HBD := Lib.hid hbd; clear hbd
          refine wpAnyH_pick (by kernel_rfl) Only.panic (w := wd) HBD.out [0, 1, 2, 3, 4] 30 _ _ (by kernel_rfl) ?_
          refine PickOk.value (d := (some 18)) (v := .slice (some ad) n c) rfl rfl (by kernel_rfl) (fun U hU => (by go_simp)) ?_
          refine PickOk.value (d := (some 19)) (v := .int .i64 k) rfl rfl (by kernel_rfl) (fun U hU => (by go_simp)) ?_
          refine PickOk.value (d := (some 20)) (v := .pointer (some (ad.add (k * 2)))) rfl rfl (by kernel_rfl) (fun U hU => (by go_simp)) ?_
          refine PickOk.value (d := (some 21)) (v := .pointer (some (ad.add (k * 2)))) rfl rfl (by kernel_rfl) (fun U hU => (by go_simp)) ?_
          refine PickOk.value (d := (some 22)) (v := .string x) rfl rfl (by kernel_rfl) (fun U hU => (by have := HC0.out U hU; go_simp)) ?_
          simp only [PickOk, Act.put, List.setIfInBounds_toArray, List.set_cons_zero, List.set_cons_succ]
          refine wpAnyH_one (i := 5) (by kernel_rfl) rfl (by kernel_rfl) ?_
          intro K hK
          unfold Oper.wp
          go_simp
          refine (HN.out _).mono ?_; rintro e w4 ⟨rfl, hw4⟩
          have HB4 := Lib.hid (below_step HBD.out hw4); clear hw4
          refine hK _ _ HB4.out (fun _ => ?_)
          clear hK K
          refine wpAnyH_pick (by kernel_rfl) Only.panic (w := w4) HB4.out [6, 7, 8, 9, 10, 11, 12] 22 _ _ (by kernel_rfl) ?_
          refine PickOk.value (d := (some 24)) (v := .bool false) rfl rfl (by kernel_rfl) (fun U hU => (by go_simp)) ?_
          refine PickOk.value (d := (some 25)) (v := .bool false) rfl rfl (by kernel_rfl) (fun U hU => (by go_simp)) ?_
          refine PickOk.value (d := (some 26)) (v := .slice (some ad) n c) rfl rfl (by kernel_rfl) (fun U hU => (by go_simp)) ?_
          refine PickOk.value (d := (some 27)) (v := .int .i64 k) rfl rfl (by kernel_rfl) (fun U hU => (by go_simp)) ?_
          refine PickOk.value (d := (some 28)) (v := .pointer (some (ad.add (k * 2)))) rfl rfl (by kernel_rfl) (fun U hU => (by go_simp)) ?_
          refine PickOk.value (d := (some 29)) (v := .pointer (some ⟨(ad.add (k * 2)).block, (ad.add (k * 2)).off + 1, none⟩)) rfl rfl (by kernel_rfl) (fun U hU => (by go_simp)) ?_
          refine PickOk.value (d := (some 30)) (v := .string y) rfl rfl (by kernel_rfl) (fun U hU => (by have := HC1.out U hU; go_simp)) ?_
          simp only [PickOk, Act.put, List.setIfInBounds_toArray, List.set_cons_zero, List.set_cons_succ]
          refine wpAnyH_one (i := 13) (by kernel_rfl) rfl (by kernel_rfl) ?_
          intro K hK
          unfold Oper.wp
          go_simp
          refine (HV.out _).mono ?_; rintro e w5 ⟨rfl, hw5⟩
          have HB5 := Lib.hid (below_step HB4.out hw5); clear hw5
          refine hK _ _ HB5.out (fun _ => ?_)
          clear hK K
          refine wpAnyH_pick (by kernel_rfl) Only.panic (w := w5) HB5.out [14, 15, 16, 17, 18, 19, 20, 21, 22, 23, 24, 25, 26, 27, 28, 29, 30] 4 _ _ (by kernel_rfl) ?_
          refine PickOk.value (d := (some 32)) (v := .bool false) rfl rfl (by kernel_rfl) (fun U hU => (by go_simp)) ?_
          refine PickOk.value (d := (some 33)) (v := .bool false) rfl rfl (by kernel_rfl) (fun U hU => (by go_simp)) ?_
          refine PickOk.value (d := (some 34)) (v := .bool false) rfl rfl (by kernel_rfl) (fun U hU => (by go_simp)) ?_
          refine PickOk.value (d := (some 35)) (v := .int .i64 k) rfl rfl (by kernel_rfl) (fun U hU => (by go_simp)) ?_
          refine PickOk.value (d := (some 36)) (v := .bool true) rfl rfl (by kernel_rfl) (fun U hU => (by go_simp)) ?_
          refine PickOk.value (d := (some 37)) (v := .bool true) rfl rfl (by kernel_rfl) (fun U hU => (by go_simp)) ?_
          refine PickOk.value (d := (some 38)) (v := .slice (some ad) n c) rfl rfl (by kernel_rfl) (fun U hU => (by go_simp)) ?_
          refine PickOk.value (d := (some 39)) (v := .int .i64 k) rfl rfl (by kernel_rfl) (fun U hU => (by go_simp)) ?_
          refine PickOk.value (d := (some 40)) (v := .int .i64 j) rfl rfl (by kernel_rfl) (fun U hU => (by go_simp; exact HJV.out)) ?_
          refine PickOk.value (d := (some 41)) (v := .pointer (some (ad.add (j * 2)))) rfl rfl (by kernel_rfl) (fun U hU => (by go_simp)) ?_
          refine PickOk.value (d := (some 42)) (v := .pointer (some (ad.add (j * 2)))) rfl rfl (by kernel_rfl) (fun U hU => (by go_simp)) ?_
          refine PickOk.value (d := (some 43)) (v := .string p) rfl rfl (by kernel_rfl) (fun U hU => (by have := HCP.out U hU; go_simp)) ?_
          refine PickOk.value (d := (some 44)) (v := .slice (some ad) n c) rfl rfl (by kernel_rfl) (fun U hU => (by go_simp)) ?_
          refine PickOk.value (d := (some 45)) (v := .int .i64 k) rfl rfl (by kernel_rfl) (fun U hU => (by go_simp)) ?_
          refine PickOk.value (d := (some 46)) (v := .pointer (some (ad.add (k * 2)))) rfl rfl (by kernel_rfl) (fun U hU => (by go_simp)) ?_
          refine PickOk.value (d := (some 47)) (v := .pointer (some (ad.add (k * 2)))) rfl rfl (by kernel_rfl) (fun U hU => (by go_simp)) ?_
          refine PickOk.value (d := (some 48)) (v := .string x) rfl rfl (by kernel_rfl) (fun U hU => (by have := HC0.out U hU; go_simp)) ?_
          simp only [PickOk, Act.put, List.setIfInBounds_toArray, List.set_cons_zero, List.set_cons_succ]
          refine wpAnyH_one (i := 31) (by kernel_rfl) rfl (by kernel_rfl) ?_
          intro K hK
          unfold Oper.wp
          go_simp
          refine (HA2.out _).mono ?_; rintro e w6 ⟨rfl, hw6⟩
          have HB6 := Lib.hid (below_step HB5.out hw6); clear hw6
          refine hK _ _ HB6.out (fun _ => ?_)
          clear hK K
          refine wpAnyH_pick (by kernel_rfl) Only.panic (w := w6) HB6.out [32, 33, 34] 0 _ _ (by kernel_rfl) ?_
          refine PickOk.value (d := (some 50)) (v := .bool true) rfl rfl (by kernel_rfl) (fun U hU => (by go_simp)) ?_
          refine PickOk.value (d := (some 51)) (v := .bool true) rfl rfl (by kernel_rfl) (fun U hU => (by go_simp)) ?_
          refine PickOk.value (d := (some 52)) (v := .bool true) rfl rfl (by kernel_rfl) (fun U hU => (by go_simp)) ?_
          simp only [PickOk, Act.put, List.setIfInBounds_toArray, List.set_cons_zero, List.set_cons_succ]
          refine wpAnyH_done (by kernel_rfl) ?_ _
          refine Only.mk_ ?_
          go_wp2_with fail
          go_ret
          rw [HNO.out hat]
          exact ⟨rfl, below_step HB.out HB6.out⟩
        · refine plain_held (fun U => Below wr.heap.size wr U) (by kernel_rfl) ?_
          have hbd : Below wr.heap.size wr wr.drew := Below.drew (Below.refl _ _)
          generalize wr.drew = wd at *
          have HBD := Lib.hid hbd; clear hbd
          refine wpAnyH_pick (by kernel_rfl) Only.panic (w := wd) HBD.out [0, 1, 2, 3, 4] 30 _ _ (by kernel_rfl) ?_
          refine PickOk.value (d := (some 18)) (v := .slice (some ad) n c) rfl rfl (by kernel_rfl) (fun U hU => (by go_simp)) ?_
          refine PickOk.value (d := (some 19)) (v := .int .i64 k) rfl rfl (by kernel_rfl) (fun U hU => (by go_simp)) ?_
          refine PickOk.value (d := (some 20)) (v := .pointer (some (ad.add (k * 2)))) rfl rfl (by kernel_rfl) (fun U hU => (by go_simp)) ?_
          refine PickOk.value (d := (some 21)) (v := .pointer (some (ad.add (k * 2)))) rfl rfl (by kernel_rfl) (fun U hU => (by go_simp)) ?_
          refine PickOk.value (d := (some 22)) (v := .string x) rfl rfl (by kernel_rfl) (fun U hU => (by have := HC0.out U hU; go_simp)) ?_
          simp only [PickOk, Act.put, List.setIfInBounds_toArray, List.set_cons_zero, List.set_cons_succ]
          refine wpAnyH_one (i := 5) (by kernel_rfl) rfl (by kernel_rfl) ?_
          intro K hK
          unfold Oper.wp
          go_simp
          refine (HN.out _).mono ?_; rintro e w4 ⟨rfl, hw4⟩
          have HB4 := Lib.hid (below_step HBD.out hw4); clear hw4
          refine hK _ _ HB4.out (fun _ => ?_)
          clear hK K
          refine wpAnyH_pick (by kernel_rfl) Only.panic (w := w4) HB4.out [6, 7, 8, 9, 10, 11, 12] 22 _ _ (by kernel_rfl) ?_
          refine PickOk.value (d := (some 24)) (v := .bool false) rfl rfl (by kernel_rfl) (fun U hU => (by go_simp)) ?_
          refine PickOk.value (d := (some 25)) (v := .bool false) rfl rfl (by kernel_rfl) (fun U hU => (by go_simp)) ?_
          refine PickOk.value (d := (some 26)) (v := .slice (some ad) n c) rfl rfl (by kernel_rfl) (fun U hU => (by go_simp)) ?_
          refine PickOk.value (d := (some 27)) (v := .int .i64 k) rfl rfl (by kernel_rfl) (fun U hU => (by go_simp)) ?_
          refine PickOk.value (d := (some 28)) (v := .pointer (some (ad.add (k * 2)))) rfl rfl (by kernel_rfl) (fun U hU => (by go_simp)) ?_
          refine PickOk.value (d := (some 29)) (v := .pointer (some ⟨(ad.add (k * 2)).block, (ad.add (k * 2)).off + 1, none⟩)) rfl rfl (by kernel_rfl) (fun U hU => (by go_simp)) ?_
          refine PickOk.value (d := (some 30)) (v := .string y) rfl rfl (by kernel_rfl) (fun U hU => (by have := HC1.out U hU; go_simp)) ?_
          simp only [PickOk, Act.put, List.setIfInBounds_toArray, List.set_cons_zero, List.set_cons_succ]
          refine wpAnyH_one (i := 13) (by kernel_rfl) rfl (by kernel_rfl) ?_
          intro K hK
          unfold Oper.wp
          go_simp
          refine (HV.out _).mono ?_; rintro e w5 ⟨rfl, hw5⟩
          have HB5 := Lib.hid (below_step HB4.out hw5); clear hw5
          refine hK _ _ HB5.out (fun _ => ?_)
          clear hK K
          refine wpAnyH_pick (by kernel_rfl) Only.panic (w := w5) HB5.out [14, 15, 16, 17, 18, 19, 20, 21, 22, 23, 24, 25, 26, 27, 28, 29, 30] 4 _ _ (by kernel_rfl) ?_
          refine PickOk.value (d := (some 32)) (v := .bool false) rfl rfl (by kernel_rfl) (fun U hU => (by go_simp)) ?_
          refine PickOk.value (d := (some 33)) (v := .bool false) rfl rfl (by kernel_rfl) (fun U hU => (by go_simp)) ?_
          refine PickOk.value (d := (some 34)) (v := .bool false) rfl rfl (by kernel_rfl) (fun U hU => (by go_simp)) ?_
          refine PickOk.value (d := (some 35)) (v := .int .i64 k) rfl rfl (by kernel_rfl) (fun U hU => (by go_simp)) ?_
          refine PickOk.value (d := (some 36)) (v := .bool true) rfl rfl (by kernel_rfl) (fun U hU => (by go_simp)) ?_
          refine PickOk.value (d := (some 37)) (v := .bool true) rfl rfl (by kernel_rfl) (fun U hU => (by go_simp)) ?_
          refine PickOk.value (d := (some 38)) (v := .slice (some ad) n c) rfl rfl (by kernel_rfl) (fun U hU => (by go_simp)) ?_
          refine PickOk.value (d := (some 39)) (v := .int .i64 k) rfl rfl (by kernel_rfl) (fun U hU => (by go_simp)) ?_
          refine PickOk.value (d := (some 40)) (v := .int .i64 j) rfl rfl (by kernel_rfl) (fun U hU => (by go_simp; exact HJV.out)) ?_
          refine PickOk.value (d := (some 41)) (v := .pointer (some (ad.add (j * 2)))) rfl rfl (by kernel_rfl) (fun U hU => (by go_simp)) ?_
          refine PickOk.value (d := (some 42)) (v := .pointer (some (ad.add (j * 2)))) rfl rfl (by kernel_rfl) (fun U hU => (by go_simp)) ?_
          refine PickOk.value (d := (some 43)) (v := .string p) rfl rfl (by kernel_rfl) (fun U hU => (by have := HCP.out U hU; go_simp)) ?_
          refine PickOk.value (d := (some 44)) (v := .slice (some ad) n c) rfl rfl (by kernel_rfl) (fun U hU => (by go_simp)) ?_
          refine PickOk.value (d := (some 45)) (v := .int .i64 k) rfl rfl (by kernel_rfl) (fun U hU => (by go_simp)) ?_
          refine PickOk.value (d := (some 46)) (v := .pointer (some (ad.add (k * 2)))) rfl rfl (by kernel_rfl) (fun U hU => (by go_simp)) ?_
          refine PickOk.value (d := (some 47)) (v := .pointer (some (ad.add (k * 2)))) rfl rfl (by kernel_rfl) (fun U hU => (by go_simp)) ?_
          refine PickOk.value (d := (some 48)) (v := .string x) rfl rfl (by kernel_rfl) (fun U hU => (by have := HC0.out U hU; go_simp)) ?_
          simp only [PickOk, Act.put, List.setIfInBounds_toArray, List.set_cons_zero, List.set_cons_succ]
          refine wpAnyH_one (i := 31) (by kernel_rfl) rfl (by kernel_rfl) ?_
          intro K hK
          unfold Oper.wp
          go_simp
          refine (HA2.out _).mono ?_; rintro e w6 ⟨rfl, hw6⟩
          have HB6 := Lib.hid (below_step HB5.out hw6); clear hw6
          refine hK _ _ HB6.out (fun _ => ?_)
          clear hK K
          refine wpAnyH_pick (by kernel_rfl) Only.panic (w := w6) HB6.out [32, 33, 34] 0 _ _ (by kernel_rfl) ?_
          refine PickOk.value (d := (some 50)) (v := .bool false) rfl rfl (by kernel_rfl) (fun U hU => (by go_simp)) ?_
          refine PickOk.value (d := (some 51)) (v := .bool false) rfl rfl (by kernel_rfl) (fun U hU => (by go_simp)) ?_
          refine PickOk.value (d := (some 52)) (v := .bool false) rfl rfl (by kernel_rfl) (fun U hU => (by go_simp)) ?_
          simp only [PickOk, Act.put, List.setIfInBounds_toArray, List.set_cons_zero, List.set_cons_succ]
          refine wpAnyH_done (by kernel_rfl) ?_ _
          refine Only.mk_ ?_
          go_wp2_with fail
          go_roundw
          case rel => exact ⟨k + 1, by omega, by go_num, HYES.out hat, below_step HB.out HB6.out⟩
          case measure => simp [intOf]; omega
    · obtain rfl : k = n := by omega
      have hrt := HY0.out hall
      clear hall
      go_wp2_with fail
      go_ret
      rw [hrt]
      exact ⟨rfl, HB.out⟩
end Go.Proofs.Ytieoncjdhileoaa
