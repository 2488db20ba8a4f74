/-
  NumOnly: the walk of the law, given what works comes to. Its last region by hand (wip/geno.py).
-/
import Derived.Test.YtkknagfeceljdaaNumH
namespace Go.Proofs.Ytkknagfeceljdaa
open Go.RowKit

set_option linter.unusedSimpArgs false in
set_option maxRecDepth 100000 in
set_option maxHeartbeats 4000000 in
theorem numOnly_case3 (hW : WorksOk) (w : World) (s : ByteArray) (hl : s.size ≤ 300) (k : Int) (hk : (Lit.int .i64 k).wf = true) (hcA : (!(Num.decp 0 0 s.data.toList).2.2) = false) (hcB : (!decide (8 ≤ s.size)) = true) :
    Calls Try.prog 6 #[.string s, .int .i64 k] w fun e w' => e = .returned (.bool true) ∧ Below w.heap.size w w' := by
  have HK := i64_bd k hk
  clear hk
  · have d1 : decide ((300 : Int) < (s.size : Int)) = false := by simp; omega
    have hm : s.size ≤ maxLen := by unfold maxLen; omega
    go_enter Try.func6, Try.ntmps6
    have HB0 := Lib.hid (Below.refl w.heap.size w)
    go_wp2_with fail
    refine (hW _).mono ?_; rintro e w1 ⟨rfl, hb1⟩; have HB1 := Lib.hid (below_step HB0.out hb1); clear hb1 HB0
    go_wp2_with fail
    have q1 := HB1.out.size
    generalize hO : Obj.cells #[.string s, .bool false] 32 = O
    have hA0 : (((((w1.alloc O).alloc O).alloc O).alloc O)).heap[w1.heap.size]? = some O := heap_keep (heap_keep (heap_keep (heap_alloc_new w1 O) (Below.alloc (Below.refl _ _) (Nat.le_refl _) _)) (Below.alloc (Below.refl _ _) (Nat.le_refl _) _)) (Below.alloc (Below.refl _ _) (Nat.le_refl _) _)
    have hB0 : (((((w1.alloc O).alloc O).alloc O).alloc O)).heap[w1.heap.size + 1]? = some O := heap_keep (heap_keep (heap_alloc2_new w1 O O) (Below.alloc (Below.refl _ _) (Nat.le_refl _) _)) (Below.alloc (Below.refl _ _) (Nat.le_refl _) _)
    have hC0 : (((((w1.alloc O).alloc O).alloc O).alloc O)).heap[w1.heap.size + 2]? = some O := heap_keep (by have := heap_alloc_new ((w1.alloc O).alloc O) O; simpa using this) (Below.alloc (Below.refl _ _) (Nat.le_refl _) _)
    have hD0 : (((((w1.alloc O).alloc O).alloc O).alloc O)).heap[w1.heap.size + 3]? = some O := by have := heap_alloc_new (((w1.alloc O).alloc O).alloc O) O; simpa using this
    have hb2 : Below w.heap.size w ((((w1.alloc O).alloc O).alloc O).alloc O) := (((HB1.out.alloc q1 O).alloc (by simp; omega) O).alloc (by simp; omega) O).alloc (by simp; omega) O
    subst hO
    have HB2 := Lib.hid hb2; have HA := Lib.hid (hA0 : CurAt _ s false _); have HBB := Lib.hid (hB0 : CurAt _ s false _); have HC := Lib.hid (hC0 : CurAt _ s false _); have HD := Lib.hid (hD0 : CurAt _ s false _)
    clear hb2 hA0 hB0 hC0 hD0
    refine (curSmall_or _ s hm _ HA.out).mono ?_; rintro e W1 ⟨n, rA, badA, rfl, h1, h2, hn, eqA, hbA⟩
    have HA3 := Lib.hid h1; have HB3 := Lib.hid (grown_keep HBB.out h2 (by omega) : CurAt _ _ _ _); have HC3 := Lib.hid (grown_keep HC.out h2 (by omega) : CurAt _ _ _ _); have HD3 := Lib.hid (grown_keep HD.out h2 (by omega) : CurAt _ _ _ _); have HX3 := Lib.hid (below_of_grown HB2.out h2 (by simp; omega) q1); have HN : Hid (n < 18446744073709551616) := Lib.hid hn; have HEA := Lib.hid eqA; clear h1 h2 HA HBB HC HD HB2 hn eqA
    have q3 := HX3.out.size
    go_wp2_with fail
    refine (curWide_or _ s hm _ HB3.out).mono ?_; rintro e W2 ⟨m, rB, badB, rfl, h1, h2, eqB, hbB⟩
    have HB4 := Lib.hid h1; have HA4 := Lib.hid (grown_keep HA3.out h2 (by omega) : CurAt _ _ _ _); have HC4 := Lib.hid (grown_keep HC3.out h2 (by omega) : CurAt _ _ _ _); have HD4 := Lib.hid (grown_keep HD3.out h2 (by omega) : CurAt _ _ _ _); have HX4 := Lib.hid (below_of_grown HX3.out h2 (by omega) (by omega)); have HEB := Lib.hid eqB; clear h1 h2 HA3 HB3 HC3 HD3 HX3 eqB
    have q4 := HX4.out.size
    go_wp2_with fail
    refine (curText_or _ s hl k HK _ HC4.out).mono ?_; rintro e W3 ⟨t, rC, badC, rfl, h1, h2, ht, eqC⟩
    have HC5 := Lib.hid h1; have HA5 := Lib.hid (grown_keep HA4.out h2 (by omega) : CurAt _ _ _ _); have HB5 := Lib.hid (grown_keep HB4.out h2 (by omega) : CurAt _ _ _ _); have HD5 := Lib.hid (grown_keep HD4.out h2 (by omega) : CurAt _ _ _ _); have HX5 := Lib.hid (below_of_grown HX4.out h2 (by omega) (by omega)); have HEC := Lib.hid eqC; clear h1 h2 HA4 HB4 HC4 HD4 HX4 eqC
    have q5 := HX5.out.size
    go_wp2_with fail
    refine (curFixed_or _ s hl k _ HD5.out).mono ?_; rintro e W4 ⟨u, rD, badD, rfl, h1, h2, hu, eqD⟩
    have HD6 := Lib.hid h1; have HA6 := Lib.hid (grown_keep HA5.out h2 (by omega) : CurAt _ _ _ _); have HB6 := Lib.hid (grown_keep HB5.out h2 (by omega) : CurAt _ _ _ _); have HC6 := Lib.hid (grown_keep HC5.out h2 (by omega) : CurAt _ _ _ _); have HB := Lib.hid (below_of_grown HX5.out h2 (by omega) (by omega)); have HED := Lib.hid eqD; clear h1 h2 HA5 HB5 HC5 HD5 HX5 eqD
    have hA : W4.cell? ⟨w1.heap.size, 0, none⟩ = some (.string rA) ∧ W4.cell? ⟨w1.heap.size, 1, none⟩ = some (.bool false) ∧ Num.smallB n ++ rA = s := by
      obtain ⟨c0, c1, -, -⟩ := CurAt.cells (HA6.out : CurAt _ _ _ _)
      rw [hbA.trans hcA] at c1
      exact ⟨c0, c1, HEA.out (hbA.trans hcA)⟩
    have hB : W4.cell? ⟨w1.heap.size + 1, 0, none⟩ = some (.string rB) ∧ W4.cell? ⟨w1.heap.size + 1, 1, none⟩ = some (.bool true) := by
      obtain ⟨c0, c1, -, -⟩ := CurAt.cells (HB6.out : CurAt _ _ _ _)
      rw [hbB.trans hcB] at c1
      exact ⟨c0, c1⟩
    have hC : (W4.cell? ⟨w1.heap.size + 2, 0, none⟩ = some (.string rC) ∧ W4.cell? ⟨w1.heap.size + 2, 1, none⟩ = some (.bool true)) ∨ (W4.cell? ⟨w1.heap.size + 2, 0, none⟩ = some (.string rC) ∧ W4.cell? ⟨w1.heap.size + 2, 1, none⟩ = some (.bool false) ∧ ((Num.smallB t.size ++ t) ++ rC = s ∧ (t.size : Int) ≤ k)) := by
      obtain ⟨c0, c1, -, -⟩ := CurAt.cells (HC6.out : CurAt _ _ _ _)
      cases badC with
      | true => exact .inl ⟨c0, c1⟩
      | false => exact .inr ⟨c0, c1, HEC.out rfl⟩
    have hD : (W4.cell? ⟨w1.heap.size + 3, 0, none⟩ = some (.string rD) ∧ W4.cell? ⟨w1.heap.size + 3, 1, none⟩ = some (.bool true)) ∨ (W4.cell? ⟨w1.heap.size + 3, 0, none⟩ = some (.string rD) ∧ W4.cell? ⟨w1.heap.size + 3, 1, none⟩ = some (.bool false) ∧ Num.fixedB u (Num.sz k) ++ rD = s) := by
      obtain ⟨c0, c1, -, -⟩ := CurAt.cells (HD6.out : CurAt _ _ _ _)
      cases badD with
      | true => exact .inl ⟨c0, c1⟩
      | false => exact .inr ⟨c0, c1, HED.out rfl⟩
    clear HA6 HB6 HC6 HD6 HEA HEB HEC HED q3 q4 q5
    go_wp2_with fail
    refine region_held_gen (S := fun W => Below W4.heap.size W4 W) (by kernel_rfl) (fun R hR hN => ?_)
    have hS0 : Below W4.heap.size W4 W4.drew := Below.drew (Below.refl _ _)
    refine takeH_at (i := 0) (d := (some 35)) (v := .bool true) rfl (by kernel_rfl) (by kernel_rfl) (by kernel_rfl) (by kernel_rfl) hR (by kernel_rfl) (fun w _ => by kernel_rfl) hS0 ?_
    try simp only [Act.put, List.setIfInBounds_toArray, List.set_cons_zero, List.set_cons_succ]
    refine takeH_at (i := 1) (d := (some 36)) (v := .bool true) rfl (by kernel_rfl) (by kernel_rfl) (by kernel_rfl) (by kernel_rfl) hR (by kernel_rfl) (fun w _ => by kernel_rfl) hS0 ?_
    try simp only [Act.put, List.setIfInBounds_toArray, List.set_cons_zero, List.set_cons_succ]
    refine takeH_at (i := 2) (d := (some 37)) (v := .pointer (some ⟨w1.heap.size, 1, none⟩)) rfl (by kernel_rfl) (by kernel_rfl) (by kernel_rfl) (by kernel_rfl) hR (by kernel_rfl) (fun w _ => by kernel_rfl) hS0 ?_
    try simp only [Act.put, List.setIfInBounds_toArray, List.set_cons_zero, List.set_cons_succ]
    obtain ⟨c0, c1, eq⟩ := hA
    · skip
      refine takeH_at (i := 3) (d := (some 38)) (v := .bool false) rfl (by kernel_rfl) (by kernel_rfl) (by kernel_rfl) (by kernel_rfl) hR (by kernel_rfl) (fun w hw => by have h := cell_keep c1 hw; go_simp) hS0 ?_
      try simp only [Act.put, List.setIfInBounds_toArray, List.set_cons_zero, List.set_cons_succ]
      refine takeH_at (i := 4) (d := (some 39)) (v := .bool false) rfl (by kernel_rfl) (by kernel_rfl) (by kernel_rfl) (by kernel_rfl) hR (by kernel_rfl) (fun w _ => by kernel_rfl) hS0 ?_
      try simp only [Act.put, List.setIfInBounds_toArray, List.set_cons_zero, List.set_cons_succ]
      refine takeH_at (i := 5) (d := (some 40)) (v := .int .u64 n) rfl (by kernel_rfl) (by kernel_rfl) (by kernel_rfl) (by kernel_rfl) hR (by kernel_rfl) (fun w _ => by kernel_rfl) hS0 ?_
      try simp only [Act.put, List.setIfInBounds_toArray, List.set_cons_zero, List.set_cons_succ]
      refine takeH_at (i := 7) (d := (some 42)) (v := .pointer (some ⟨w1.heap.size, 0, none⟩)) rfl (by kernel_rfl) (by kernel_rfl) (by kernel_rfl) (by kernel_rfl) hR (by kernel_rfl) (fun w _ => by kernel_rfl) hS0 ?_
      try simp only [Act.put, List.setIfInBounds_toArray, List.set_cons_zero, List.set_cons_succ]
      refine takeH_at (i := 8) (d := (some 43)) (v := .string rA) rfl (by kernel_rfl) (by kernel_rfl) (by kernel_rfl) (by kernel_rfl) hR (by kernel_rfl) (fun w hw => by have h := cell_keep c0 hw; go_simp) hS0 ?_
      try simp only [Act.put, List.setIfInBounds_toArray, List.set_cons_zero, List.set_cons_succ]
      refine takeH_at (i := 10) (d := (some 45)) (v := .string s) rfl (by kernel_rfl) (by kernel_rfl) (by kernel_rfl) (by kernel_rfl) hR (by kernel_rfl) (fun w _ => by kernel_rfl) hS0 ?_
      try simp only [Act.put, List.setIfInBounds_toArray, List.set_cons_zero, List.set_cons_succ]
      refine wpAnyH_ready (rs := [6]) (by kernel_rfl) (by simp) ?_
      refine AllReadyH.cons rfl (fun K hK => ?_) AllReadyH.nil
      go_simp
      refine (Small_any n HN _).mono ?_; rintro e V1 ⟨rfl, hc⟩
      try go_wp2_with fail
      refine hK.out _ _ (below_step hS0 hc) (fun hS1 => ?_); clear hK K hc
      try simp only [Act.put, List.setIfInBounds_toArray, List.set_cons_zero, List.set_cons_succ]
      have hz : s.size ≤ 300 := hl; rw [← eq, ByteArray.size_append] at hz
      refine takeH_at (i := 9) (d := (some 44)) (v := .string s) rfl (by kernel_rfl) (by kernel_rfl) (by kernel_rfl) (by kernel_rfl) hR (by kernel_rfl) (fun w _ => by go_simp <;> omega) hS1 ?_
      try simp only [Act.put, List.setIfInBounds_toArray, List.set_cons_zero, List.set_cons_succ]
      clear hz
      refine takeH_at (i := 11) (d := (some 46)) (v := .bool true) rfl (by kernel_rfl) (by kernel_rfl) (by kernel_rfl) (by kernel_rfl) hR (by kernel_rfl) (fun w _ => eql_yes w s _ (by kernel_rfl)) hS1 ?_
      try simp only [Act.put, List.setIfInBounds_toArray, List.set_cons_zero, List.set_cons_succ]
      clear c0 c1 eq
      refine takeH_at (i := 12) (d := (some 47)) (v := .bool true) rfl (by kernel_rfl) (by kernel_rfl) (by kernel_rfl) (by kernel_rfl) hR (by kernel_rfl) (fun w _ => by kernel_rfl) hS1 ?_
      try simp only [Act.put, List.setIfInBounds_toArray, List.set_cons_zero, List.set_cons_succ]
      refine takeH_at (i := 13) (d := (some 48)) (v := .bool true) rfl (by kernel_rfl) (by kernel_rfl) (by kernel_rfl) (by kernel_rfl) hR (by kernel_rfl) (fun w _ => by kernel_rfl) hS1 ?_
      try simp only [Act.put, List.setIfInBounds_toArray, List.set_cons_zero, List.set_cons_succ]
      refine takeH_at (i := 14) (d := (some 49)) (v := .bool true) rfl (by kernel_rfl) (by kernel_rfl) (by kernel_rfl) (by kernel_rfl) hR (by kernel_rfl) (fun w _ => by kernel_rfl) hS1 ?_
      try simp only [Act.put, List.setIfInBounds_toArray, List.set_cons_zero, List.set_cons_succ]
      refine takeH_at (i := 15) (d := (some 50)) (v := .pointer (some ⟨w1.heap.size + 1, 1, none⟩)) rfl (by kernel_rfl) (by kernel_rfl) (by kernel_rfl) (by kernel_rfl) hR (by kernel_rfl) (fun w _ => by kernel_rfl) hS1 ?_
      try simp only [Act.put, List.setIfInBounds_toArray, List.set_cons_zero, List.set_cons_succ]
      obtain ⟨c0, c1⟩ := hB
      · skip
        refine takeH_at (i := 16) (d := (some 51)) (v := .bool true) rfl (by kernel_rfl) (by kernel_rfl) (by kernel_rfl) (by kernel_rfl) hR (by kernel_rfl) (fun w hw => by have h := cell_keep c1 hw; go_simp) hS1 ?_
        try simp only [Act.put, List.setIfInBounds_toArray, List.set_cons_zero, List.set_cons_succ]
        refine takeH_at (i := 17) (d := (some 52)) (v := .bool true) rfl (by kernel_rfl) (by kernel_rfl) (by kernel_rfl) (by kernel_rfl) hR (by kernel_rfl) (fun w _ => by kernel_rfl) hS1 ?_
        try simp only [Act.put, List.setIfInBounds_toArray, List.set_cons_zero, List.set_cons_succ]
        refine takeU_at (i := 18) (d := (some 53)) rfl (by kernel_rfl) (by kernel_rfl) (by kernel_rfl) (by kernel_rfl) hR (by kernel_rfl) hS1 ?_
        try simp only [Act.put, List.setIfInBounds_toArray, List.set_cons_zero, List.set_cons_succ]
        refine takeU_at (i := 19) (d := (some 54)) rfl (by kernel_rfl) (by kernel_rfl) (by kernel_rfl) (by kernel_rfl) hR (by kernel_rfl) hS1 ?_
        try simp only [Act.put, List.setIfInBounds_toArray, List.set_cons_zero, List.set_cons_succ]
        refine takeU_at (i := 20) (d := (some 55)) rfl (by kernel_rfl) (by kernel_rfl) (by kernel_rfl) (by kernel_rfl) hR (by kernel_rfl) hS1 ?_
        try simp only [Act.put, List.setIfInBounds_toArray, List.set_cons_zero, List.set_cons_succ]
        refine takeU_at (i := 21) (d := (some 56)) rfl (by kernel_rfl) (by kernel_rfl) (by kernel_rfl) (by kernel_rfl) hR (by kernel_rfl) hS1 ?_
        try simp only [Act.put, List.setIfInBounds_toArray, List.set_cons_zero, List.set_cons_succ]
        refine takeU_at (i := 22) (d := (some 57)) rfl (by kernel_rfl) (by kernel_rfl) (by kernel_rfl) (by kernel_rfl) hR (by kernel_rfl) hS1 ?_
        try simp only [Act.put, List.setIfInBounds_toArray, List.set_cons_zero, List.set_cons_succ]
        refine takeU_at (i := 23) (d := (some 58)) rfl (by kernel_rfl) (by kernel_rfl) (by kernel_rfl) (by kernel_rfl) hR (by kernel_rfl) hS1 ?_
        try simp only [Act.put, List.setIfInBounds_toArray, List.set_cons_zero, List.set_cons_succ]
        refine takeU_at (i := 24) (d := (some 59)) rfl (by kernel_rfl) (by kernel_rfl) (by kernel_rfl) (by kernel_rfl) hR (by kernel_rfl) hS1 ?_
        try simp only [Act.put, List.setIfInBounds_toArray, List.set_cons_zero, List.set_cons_succ]
        clear c0 c1
        refine takeH_at (i := 25) (d := (some 60)) (v := .bool true) rfl (by kernel_rfl) (by kernel_rfl) (by kernel_rfl) (by kernel_rfl) hR (by kernel_rfl) (fun w _ => by kernel_rfl) hS1 ?_
        try simp only [Act.put, List.setIfInBounds_toArray, List.set_cons_zero, List.set_cons_succ]
        refine takeH_at (i := 26) (d := (some 61)) (v := .bool true) rfl (by kernel_rfl) (by kernel_rfl) (by kernel_rfl) (by kernel_rfl) hR (by kernel_rfl) (fun w _ => by kernel_rfl) hS1 ?_
        try simp only [Act.put, List.setIfInBounds_toArray, List.set_cons_zero, List.set_cons_succ]
        refine takeH_at (i := 27) (d := (some 62)) (v := .bool true) rfl (by kernel_rfl) (by kernel_rfl) (by kernel_rfl) (by kernel_rfl) hR (by kernel_rfl) (fun w _ => by kernel_rfl) hS1 ?_
        try simp only [Act.put, List.setIfInBounds_toArray, List.set_cons_zero, List.set_cons_succ]
        refine takeH_at (i := 28) (d := (some 63)) (v := .pointer (some ⟨w1.heap.size + 2, 1, none⟩)) rfl (by kernel_rfl) (by kernel_rfl) (by kernel_rfl) (by kernel_rfl) hR (by kernel_rfl) (fun w _ => by kernel_rfl) hS1 ?_
        try simp only [Act.put, List.setIfInBounds_toArray, List.set_cons_zero, List.set_cons_succ]
        rcases hC with ⟨c0, c1⟩ | ⟨c0, c1, eq⟩
        · skip
          refine takeH_at (i := 29) (d := (some 64)) (v := .bool true) rfl (by kernel_rfl) (by kernel_rfl) (by kernel_rfl) (by kernel_rfl) hR (by kernel_rfl) (fun w hw => by have h := cell_keep c1 hw; go_simp) hS1 ?_
          try simp only [Act.put, List.setIfInBounds_toArray, List.set_cons_zero, List.set_cons_succ]
          refine takeH_at (i := 30) (d := (some 65)) (v := .bool true) rfl (by kernel_rfl) (by kernel_rfl) (by kernel_rfl) (by kernel_rfl) hR (by kernel_rfl) (fun w _ => by kernel_rfl) hS1 ?_
          try simp only [Act.put, List.setIfInBounds_toArray, List.set_cons_zero, List.set_cons_succ]
          refine takeU_at (i := 31) (d := (some 66)) rfl (by kernel_rfl) (by kernel_rfl) (by kernel_rfl) (by kernel_rfl) hR (by kernel_rfl) hS1 ?_
          try simp only [Act.put, List.setIfInBounds_toArray, List.set_cons_zero, List.set_cons_succ]
          refine takeU_at (i := 32) (d := (some 67)) rfl (by kernel_rfl) (by kernel_rfl) (by kernel_rfl) (by kernel_rfl) hR (by kernel_rfl) hS1 ?_
          try simp only [Act.put, List.setIfInBounds_toArray, List.set_cons_zero, List.set_cons_succ]
          refine takeU_at (i := 33) (d := (some 68)) rfl (by kernel_rfl) (by kernel_rfl) (by kernel_rfl) (by kernel_rfl) hR (by kernel_rfl) hS1 ?_
          try simp only [Act.put, List.setIfInBounds_toArray, List.set_cons_zero, List.set_cons_succ]
          refine takeU_at (i := 34) (d := (some 69)) rfl (by kernel_rfl) (by kernel_rfl) (by kernel_rfl) (by kernel_rfl) hR (by kernel_rfl) hS1 ?_
          try simp only [Act.put, List.setIfInBounds_toArray, List.set_cons_zero, List.set_cons_succ]
          refine takeU_at (i := 35) (d := (some 70)) rfl (by kernel_rfl) (by kernel_rfl) (by kernel_rfl) (by kernel_rfl) hR (by kernel_rfl) hS1 ?_
          try simp only [Act.put, List.setIfInBounds_toArray, List.set_cons_zero, List.set_cons_succ]
          refine takeU_at (i := 36) (d := (some 71)) rfl (by kernel_rfl) (by kernel_rfl) (by kernel_rfl) (by kernel_rfl) hR (by kernel_rfl) hS1 ?_
          try simp only [Act.put, List.setIfInBounds_toArray, List.set_cons_zero, List.set_cons_succ]
          refine takeU_at (i := 37) (d := (some 72)) rfl (by kernel_rfl) (by kernel_rfl) (by kernel_rfl) (by kernel_rfl) hR (by kernel_rfl) hS1 ?_
          try simp only [Act.put, List.setIfInBounds_toArray, List.set_cons_zero, List.set_cons_succ]
          refine takeU_at (i := 38) (d := (some 73)) rfl (by kernel_rfl) (by kernel_rfl) (by kernel_rfl) (by kernel_rfl) hR (by kernel_rfl) hS1 ?_
          try simp only [Act.put, List.setIfInBounds_toArray, List.set_cons_zero, List.set_cons_succ]
          refine takeU_at (i := 39) (d := (some 74)) rfl (by kernel_rfl) (by kernel_rfl) (by kernel_rfl) (by kernel_rfl) hR (by kernel_rfl) hS1 ?_
          try simp only [Act.put, List.setIfInBounds_toArray, List.set_cons_zero, List.set_cons_succ]
          refine takeU_at (i := 40) (d := (some 75)) rfl (by kernel_rfl) (by kernel_rfl) (by kernel_rfl) (by kernel_rfl) hR (by kernel_rfl) hS1 ?_
          try simp only [Act.put, List.setIfInBounds_toArray, List.set_cons_zero, List.set_cons_succ]
          refine takeU_at (i := 41) (d := (some 76)) rfl (by kernel_rfl) (by kernel_rfl) (by kernel_rfl) (by kernel_rfl) hR (by kernel_rfl) hS1 ?_
          try simp only [Act.put, List.setIfInBounds_toArray, List.set_cons_zero, List.set_cons_succ]
          refine takeU_at (i := 42) (d := (some 77)) rfl (by kernel_rfl) (by kernel_rfl) (by kernel_rfl) (by kernel_rfl) hR (by kernel_rfl) hS1 ?_
          try simp only [Act.put, List.setIfInBounds_toArray, List.set_cons_zero, List.set_cons_succ]
          refine takeU_at (i := 43) (d := (some 78)) rfl (by kernel_rfl) (by kernel_rfl) (by kernel_rfl) (by kernel_rfl) hR (by kernel_rfl) hS1 ?_
          try simp only [Act.put, List.setIfInBounds_toArray, List.set_cons_zero, List.set_cons_succ]
          clear c0 c1
          refine takeH_at (i := 44) (d := (some 79)) (v := .bool true) rfl (by kernel_rfl) (by kernel_rfl) (by kernel_rfl) (by kernel_rfl) hR (by kernel_rfl) (fun w _ => by kernel_rfl) hS1 ?_
          try simp only [Act.put, List.setIfInBounds_toArray, List.set_cons_zero, List.set_cons_succ]
          refine takeH_at (i := 45) (d := (some 80)) (v := .bool true) rfl (by kernel_rfl) (by kernel_rfl) (by kernel_rfl) (by kernel_rfl) hR (by kernel_rfl) (fun w _ => by kernel_rfl) hS1 ?_
          try simp only [Act.put, List.setIfInBounds_toArray, List.set_cons_zero, List.set_cons_succ]
          refine takeH_at (i := 46) (d := (some 81)) (v := .bool true) rfl (by kernel_rfl) (by kernel_rfl) (by kernel_rfl) (by kernel_rfl) hR (by kernel_rfl) (fun w _ => by kernel_rfl) hS1 ?_
          try simp only [Act.put, List.setIfInBounds_toArray, List.set_cons_zero, List.set_cons_succ]
          refine takeH_at (i := 47) (d := (some 82)) (v := .pointer (some ⟨w1.heap.size + 3, 1, none⟩)) rfl (by kernel_rfl) (by kernel_rfl) (by kernel_rfl) (by kernel_rfl) hR (by kernel_rfl) (fun w _ => by kernel_rfl) hS1 ?_
          try simp only [Act.put, List.setIfInBounds_toArray, List.set_cons_zero, List.set_cons_succ]
          rcases hD with ⟨c0, c1⟩ | ⟨c0, c1, eq⟩
          · skip
            refine takeH_at (i := 48) (d := (some 83)) (v := .bool true) rfl (by kernel_rfl) (by kernel_rfl) (by kernel_rfl) (by kernel_rfl) hR (by kernel_rfl) (fun w hw => by have h := cell_keep c1 hw; go_simp) hS1 ?_
            try simp only [Act.put, List.setIfInBounds_toArray, List.set_cons_zero, List.set_cons_succ]
            refine takeH_at (i := 49) (d := (some 84)) (v := .bool true) rfl (by kernel_rfl) (by kernel_rfl) (by kernel_rfl) (by kernel_rfl) hR (by kernel_rfl) (fun w _ => by kernel_rfl) hS1 ?_
            try simp only [Act.put, List.setIfInBounds_toArray, List.set_cons_zero, List.set_cons_succ]
            refine takeU_at (i := 50) (d := (some 85)) rfl (by kernel_rfl) (by kernel_rfl) (by kernel_rfl) (by kernel_rfl) hR (by kernel_rfl) hS1 ?_
            try simp only [Act.put, List.setIfInBounds_toArray, List.set_cons_zero, List.set_cons_succ]
            refine takeU_at (i := 51) (d := (some 86)) rfl (by kernel_rfl) (by kernel_rfl) (by kernel_rfl) (by kernel_rfl) hR (by kernel_rfl) hS1 ?_
            try simp only [Act.put, List.setIfInBounds_toArray, List.set_cons_zero, List.set_cons_succ]
            refine takeU_at (i := 52) (d := (some 87)) rfl (by kernel_rfl) (by kernel_rfl) (by kernel_rfl) (by kernel_rfl) hR (by kernel_rfl) hS1 ?_
            try simp only [Act.put, List.setIfInBounds_toArray, List.set_cons_zero, List.set_cons_succ]
            refine takeU_at (i := 53) (d := (some 88)) rfl (by kernel_rfl) (by kernel_rfl) (by kernel_rfl) (by kernel_rfl) hR (by kernel_rfl) hS1 ?_
            try simp only [Act.put, List.setIfInBounds_toArray, List.set_cons_zero, List.set_cons_succ]
            refine takeU_at (i := 54) (d := (some 89)) rfl (by kernel_rfl) (by kernel_rfl) (by kernel_rfl) (by kernel_rfl) hR (by kernel_rfl) hS1 ?_
            try simp only [Act.put, List.setIfInBounds_toArray, List.set_cons_zero, List.set_cons_succ]
            refine takeU_at (i := 55) (d := (some 90)) rfl (by kernel_rfl) (by kernel_rfl) (by kernel_rfl) (by kernel_rfl) hR (by kernel_rfl) hS1 ?_
            try simp only [Act.put, List.setIfInBounds_toArray, List.set_cons_zero, List.set_cons_succ]
            refine takeU_at (i := 56) (d := (some 91)) rfl (by kernel_rfl) (by kernel_rfl) (by kernel_rfl) (by kernel_rfl) hR (by kernel_rfl) hS1 ?_
            try simp only [Act.put, List.setIfInBounds_toArray, List.set_cons_zero, List.set_cons_succ]
            refine takeU_at (i := 57) (d := (some 92)) rfl (by kernel_rfl) (by kernel_rfl) (by kernel_rfl) (by kernel_rfl) hR (by kernel_rfl) hS1 ?_
            try simp only [Act.put, List.setIfInBounds_toArray, List.set_cons_zero, List.set_cons_succ]
            clear c0 c1
            refine takeH_at (i := 58) (d := (some 93)) (v := .bool true) rfl (by kernel_rfl) (by kernel_rfl) (by kernel_rfl) (by kernel_rfl) hR (by kernel_rfl) (fun w _ => by kernel_rfl) hS1 ?_
            try simp only [Act.put, List.setIfInBounds_toArray, List.set_cons_zero, List.set_cons_succ]
            refine takeH_at (i := 59) (d := (some 94)) (v := .bool true) rfl (by kernel_rfl) (by kernel_rfl) (by kernel_rfl) (by kernel_rfl) hR (by kernel_rfl) (fun w _ => by kernel_rfl) hS1 ?_
            try simp only [Act.put, List.setIfInBounds_toArray, List.set_cons_zero, List.set_cons_succ]
            refine takeH_at (i := 60) (d := (some 4)) (v := .bool true) rfl (by kernel_rfl) (by kernel_rfl) (by kernel_rfl) (by kernel_rfl) hR (by kernel_rfl) (fun w _ => by kernel_rfl) hS1 ?_
            try simp only [Act.put, List.setIfInBounds_toArray, List.set_cons_zero, List.set_cons_succ]
            refine wpAnyH_done (by kernel_rfl) ?_ _
            refine hN _ _ ?_
            go_wp2_with fail
            go_ret
            exact ⟨rfl, below_step HB.out hS1⟩
          · skip
            refine takeH_at (i := 48) (d := (some 83)) (v := .bool false) rfl (by kernel_rfl) (by kernel_rfl) (by kernel_rfl) (by kernel_rfl) hR (by kernel_rfl) (fun w hw => by have h := cell_keep c1 hw; go_simp) hS1 ?_
            try simp only [Act.put, List.setIfInBounds_toArray, List.set_cons_zero, List.set_cons_succ]
            refine takeH_at (i := 49) (d := (some 84)) (v := .bool false) rfl (by kernel_rfl) (by kernel_rfl) (by kernel_rfl) (by kernel_rfl) hR (by kernel_rfl) (fun w _ => by kernel_rfl) hS1 ?_
            try simp only [Act.put, List.setIfInBounds_toArray, List.set_cons_zero, List.set_cons_succ]
            refine takeH_at (i := 50) (d := (some 85)) (v := .string u) rfl (by kernel_rfl) (by kernel_rfl) (by kernel_rfl) (by kernel_rfl) hR (by kernel_rfl) (fun w _ => by kernel_rfl) hS1 ?_
            try simp only [Act.put, List.setIfInBounds_toArray, List.set_cons_zero, List.set_cons_succ]
            refine takeH_at (i := 51) (d := (some 86)) (v := .int .i64 k) rfl (by kernel_rfl) (by kernel_rfl) (by kernel_rfl) (by kernel_rfl) hR (by kernel_rfl) (fun w _ => by kernel_rfl) hS1 ?_
            try simp only [Act.put, List.setIfInBounds_toArray, List.set_cons_zero, List.set_cons_succ]
            refine takeH_at (i := 53) (d := (some 88)) (v := .pointer (some ⟨w1.heap.size + 3, 0, none⟩)) rfl (by kernel_rfl) (by kernel_rfl) (by kernel_rfl) (by kernel_rfl) hR (by kernel_rfl) (fun w _ => by kernel_rfl) hS1 ?_
            try simp only [Act.put, List.setIfInBounds_toArray, List.set_cons_zero, List.set_cons_succ]
            refine takeH_at (i := 54) (d := (some 89)) (v := .string rD) rfl (by kernel_rfl) (by kernel_rfl) (by kernel_rfl) (by kernel_rfl) hR (by kernel_rfl) (fun w hw => by have h := cell_keep c0 hw; go_simp) hS1 ?_
            try simp only [Act.put, List.setIfInBounds_toArray, List.set_cons_zero, List.set_cons_succ]
            refine takeH_at (i := 56) (d := (some 91)) (v := .string s) rfl (by kernel_rfl) (by kernel_rfl) (by kernel_rfl) (by kernel_rfl) hR (by kernel_rfl) (fun w _ => by kernel_rfl) hS1 ?_
            try simp only [Act.put, List.setIfInBounds_toArray, List.set_cons_zero, List.set_cons_succ]
            refine wpAnyH_ready (rs := [52]) (by kernel_rfl) (by simp) ?_
            refine AllReadyH.cons rfl (fun K hK => ?_) AllReadyH.nil
            go_simp
            refine (Fixed_any u hu k _).mono ?_; rintro e V2 ⟨rfl, hc⟩
            try go_wp2_with fail
            refine hK.out _ _ (below_step hS1 hc) (fun hS2 => ?_); clear hK K hc
            try simp only [Act.put, List.setIfInBounds_toArray, List.set_cons_zero, List.set_cons_succ]
            have hz : s.size ≤ 300 := hl; rw [← eq, ByteArray.size_append] at hz
            refine takeH_at (i := 55) (d := (some 90)) (v := .string s) rfl (by kernel_rfl) (by kernel_rfl) (by kernel_rfl) (by kernel_rfl) hR (by kernel_rfl) (fun w _ => by go_simp <;> omega) hS2 ?_
            try simp only [Act.put, List.setIfInBounds_toArray, List.set_cons_zero, List.set_cons_succ]
            clear hz
            refine takeH_at (i := 57) (d := (some 92)) (v := .bool true) rfl (by kernel_rfl) (by kernel_rfl) (by kernel_rfl) (by kernel_rfl) hR (by kernel_rfl) (fun w _ => eql_yes w s _ (by kernel_rfl)) hS2 ?_
            try simp only [Act.put, List.setIfInBounds_toArray, List.set_cons_zero, List.set_cons_succ]
            clear c0 c1 eq
            refine takeH_at (i := 58) (d := (some 93)) (v := .bool true) rfl (by kernel_rfl) (by kernel_rfl) (by kernel_rfl) (by kernel_rfl) hR (by kernel_rfl) (fun w _ => by kernel_rfl) hS2 ?_
            try simp only [Act.put, List.setIfInBounds_toArray, List.set_cons_zero, List.set_cons_succ]
            refine takeH_at (i := 59) (d := (some 94)) (v := .bool true) rfl (by kernel_rfl) (by kernel_rfl) (by kernel_rfl) (by kernel_rfl) hR (by kernel_rfl) (fun w _ => by kernel_rfl) hS2 ?_
            try simp only [Act.put, List.setIfInBounds_toArray, List.set_cons_zero, List.set_cons_succ]
            refine takeH_at (i := 60) (d := (some 4)) (v := .bool true) rfl (by kernel_rfl) (by kernel_rfl) (by kernel_rfl) (by kernel_rfl) hR (by kernel_rfl) (fun w _ => by kernel_rfl) hS2 ?_
            try simp only [Act.put, List.setIfInBounds_toArray, List.set_cons_zero, List.set_cons_succ]
            refine wpAnyH_done (by kernel_rfl) ?_ _
            refine hN _ _ ?_
            go_wp2_with fail
            go_ret
            exact ⟨rfl, below_step HB.out hS2⟩
        · skip
          refine takeH_at (i := 29) (d := (some 64)) (v := .bool false) rfl (by kernel_rfl) (by kernel_rfl) (by kernel_rfl) (by kernel_rfl) hR (by kernel_rfl) (fun w hw => by have h := cell_keep c1 hw; go_simp) hS1 ?_
          try simp only [Act.put, List.setIfInBounds_toArray, List.set_cons_zero, List.set_cons_succ]
          refine takeH_at (i := 30) (d := (some 65)) (v := .bool false) rfl (by kernel_rfl) (by kernel_rfl) (by kernel_rfl) (by kernel_rfl) hR (by kernel_rfl) (fun w _ => by kernel_rfl) hS1 ?_
          try simp only [Act.put, List.setIfInBounds_toArray, List.set_cons_zero, List.set_cons_succ]
          refine takeH_at (i := 31) (d := (some 66)) (v := .string t) rfl (by kernel_rfl) (by kernel_rfl) (by kernel_rfl) (by kernel_rfl) hR (by kernel_rfl) (fun w _ => by kernel_rfl) hS1 ?_
          try simp only [Act.put, List.setIfInBounds_toArray, List.set_cons_zero, List.set_cons_succ]
          refine takeH_at (i := 33) (d := (some 68)) (v := .pointer (some ⟨w1.heap.size + 2, 0, none⟩)) rfl (by kernel_rfl) (by kernel_rfl) (by kernel_rfl) (by kernel_rfl) hR (by kernel_rfl) (fun w _ => by kernel_rfl) hS1 ?_
          try simp only [Act.put, List.setIfInBounds_toArray, List.set_cons_zero, List.set_cons_succ]
          refine takeH_at (i := 34) (d := (some 69)) (v := .string rC) rfl (by kernel_rfl) (by kernel_rfl) (by kernel_rfl) (by kernel_rfl) hR (by kernel_rfl) (fun w hw => by have h := cell_keep c0 hw; go_simp) hS1 ?_
          try simp only [Act.put, List.setIfInBounds_toArray, List.set_cons_zero, List.set_cons_succ]
          refine takeH_at (i := 36) (d := (some 71)) (v := .string s) rfl (by kernel_rfl) (by kernel_rfl) (by kernel_rfl) (by kernel_rfl) hR (by kernel_rfl) (fun w _ => by kernel_rfl) hS1 ?_
          try simp only [Act.put, List.setIfInBounds_toArray, List.set_cons_zero, List.set_cons_succ]
          refine wpAnyH_ready (rs := [32]) (by kernel_rfl) (by simp) ?_
          refine AllReadyH.cons rfl (fun K hK => ?_) AllReadyH.nil
          go_simp
          refine (Text_any t ht _).mono ?_; rintro e V3 ⟨rfl, hc⟩
          try go_wp2_with fail
          refine hK.out _ _ (below_step hS1 hc) (fun hS3 => ?_); clear hK K hc
          try simp only [Act.put, List.setIfInBounds_toArray, List.set_cons_zero, List.set_cons_succ]
          have hz : s.size ≤ 300 := hl; have eq1 := eq.1; rw [← eq1, ByteArray.size_append, ByteArray.size_append] at hz
          refine takeH_at (i := 35) (d := (some 70)) (v := .string s) rfl (by kernel_rfl) (by kernel_rfl) (by kernel_rfl) (by kernel_rfl) hR (by kernel_rfl) (fun w _ => by go_simp <;> omega) hS3 ?_
          try simp only [Act.put, List.setIfInBounds_toArray, List.set_cons_zero, List.set_cons_succ]
          clear hz eq1
          refine takeH_at (i := 37) (d := (some 72)) (v := .bool true) rfl (by kernel_rfl) (by kernel_rfl) (by kernel_rfl) (by kernel_rfl) hR (by kernel_rfl) (fun w _ => eql_yes w s _ (by kernel_rfl)) hS3 ?_
          try simp only [Act.put, List.setIfInBounds_toArray, List.set_cons_zero, List.set_cons_succ]
          refine takeH_at (i := 38) (d := (some 73)) (v := .bool true) rfl (by kernel_rfl) (by kernel_rfl) (by kernel_rfl) (by kernel_rfl) hR (by kernel_rfl) (fun w _ => by kernel_rfl) hS3 ?_
          try simp only [Act.put, List.setIfInBounds_toArray, List.set_cons_zero, List.set_cons_succ]
          refine takeH_at (i := 39) (d := (some 74)) (v := .string t) rfl (by kernel_rfl) (by kernel_rfl) (by kernel_rfl) (by kernel_rfl) hR (by kernel_rfl) (fun w _ => by kernel_rfl) hS3 ?_
          try simp only [Act.put, List.setIfInBounds_toArray, List.set_cons_zero, List.set_cons_succ]
          refine takeH_at (i := 40) (d := (some 75)) (v := .int .i64 (t.size : Nat)) rfl (by kernel_rfl) (by kernel_rfl) (by kernel_rfl) (by kernel_rfl) hR (by kernel_rfl) (fun w _ => by kernel_rfl) hS3 ?_
          try simp only [Act.put, List.setIfInBounds_toArray, List.set_cons_zero, List.set_cons_succ]
          refine takeH_at (i := 41) (d := (some 76)) (v := .int .i64 k) rfl (by kernel_rfl) (by kernel_rfl) (by kernel_rfl) (by kernel_rfl) hR (by kernel_rfl) (fun w _ => by kernel_rfl) hS3 ?_
          try simp only [Act.put, List.setIfInBounds_toArray, List.set_cons_zero, List.set_cons_succ]
          refine takeH_at (i := 42) (d := (some 77)) (v := .bool true) rfl (by kernel_rfl) (by kernel_rfl) (by kernel_rfl) (by kernel_rfl) hR (by kernel_rfl) (fun w _ => leq_yes w _ _ eq.2 _ (by kernel_rfl)) hS3 ?_
          try simp only [Act.put, List.setIfInBounds_toArray, List.set_cons_zero, List.set_cons_succ]
          refine takeH_at (i := 43) (d := (some 78)) (v := .bool true) rfl (by kernel_rfl) (by kernel_rfl) (by kernel_rfl) (by kernel_rfl) hR (by kernel_rfl) (fun w _ => by kernel_rfl) hS3 ?_
          try simp only [Act.put, List.setIfInBounds_toArray, List.set_cons_zero, List.set_cons_succ]
          clear c0 c1 eq
          refine takeH_at (i := 44) (d := (some 79)) (v := .bool true) rfl (by kernel_rfl) (by kernel_rfl) (by kernel_rfl) (by kernel_rfl) hR (by kernel_rfl) (fun w _ => by kernel_rfl) hS3 ?_
          try simp only [Act.put, List.setIfInBounds_toArray, List.set_cons_zero, List.set_cons_succ]
          refine takeH_at (i := 45) (d := (some 80)) (v := .bool true) rfl (by kernel_rfl) (by kernel_rfl) (by kernel_rfl) (by kernel_rfl) hR (by kernel_rfl) (fun w _ => by kernel_rfl) hS3 ?_
          try simp only [Act.put, List.setIfInBounds_toArray, List.set_cons_zero, List.set_cons_succ]
          refine takeH_at (i := 46) (d := (some 81)) (v := .bool true) rfl (by kernel_rfl) (by kernel_rfl) (by kernel_rfl) (by kernel_rfl) hR (by kernel_rfl) (fun w _ => by kernel_rfl) hS3 ?_
          try simp only [Act.put, List.setIfInBounds_toArray, List.set_cons_zero, List.set_cons_succ]
          refine takeH_at (i := 47) (d := (some 82)) (v := .pointer (some ⟨w1.heap.size + 3, 1, none⟩)) rfl (by kernel_rfl) (by kernel_rfl) (by kernel_rfl) (by kernel_rfl) hR (by kernel_rfl) (fun w _ => by kernel_rfl) hS3 ?_
          try simp only [Act.put, List.setIfInBounds_toArray, List.set_cons_zero, List.set_cons_succ]
          rcases hD with ⟨c0, c1⟩ | ⟨c0, c1, eq⟩
          · skip
            refine takeH_at (i := 48) (d := (some 83)) (v := .bool true) rfl (by kernel_rfl) (by kernel_rfl) (by kernel_rfl) (by kernel_rfl) hR (by kernel_rfl) (fun w hw => by have h := cell_keep c1 hw; go_simp) hS3 ?_
            try simp only [Act.put, List.setIfInBounds_toArray, List.set_cons_zero, List.set_cons_succ]
            refine takeH_at (i := 49) (d := (some 84)) (v := .bool true) rfl (by kernel_rfl) (by kernel_rfl) (by kernel_rfl) (by kernel_rfl) hR (by kernel_rfl) (fun w _ => by kernel_rfl) hS3 ?_
            try simp only [Act.put, List.setIfInBounds_toArray, List.set_cons_zero, List.set_cons_succ]
            refine takeU_at (i := 50) (d := (some 85)) rfl (by kernel_rfl) (by kernel_rfl) (by kernel_rfl) (by kernel_rfl) hR (by kernel_rfl) hS3 ?_
            try simp only [Act.put, List.setIfInBounds_toArray, List.set_cons_zero, List.set_cons_succ]
            refine takeU_at (i := 51) (d := (some 86)) rfl (by kernel_rfl) (by kernel_rfl) (by kernel_rfl) (by kernel_rfl) hR (by kernel_rfl) hS3 ?_
            try simp only [Act.put, List.setIfInBounds_toArray, List.set_cons_zero, List.set_cons_succ]
            refine takeU_at (i := 52) (d := (some 87)) rfl (by kernel_rfl) (by kernel_rfl) (by kernel_rfl) (by kernel_rfl) hR (by kernel_rfl) hS3 ?_
            try simp only [Act.put, List.setIfInBounds_toArray, List.set_cons_zero, List.set_cons_succ]
            refine takeU_at (i := 53) (d := (some 88)) rfl (by kernel_rfl) (by kernel_rfl) (by kernel_rfl) (by kernel_rfl) hR (by kernel_rfl) hS3 ?_
            try simp only [Act.put, List.setIfInBounds_toArray, List.set_cons_zero, List.set_cons_succ]
            refine takeU_at (i := 54) (d := (some 89)) rfl (by kernel_rfl) (by kernel_rfl) (by kernel_rfl) (by kernel_rfl) hR (by kernel_rfl) hS3 ?_
            try simp only [Act.put, List.setIfInBounds_toArray, List.set_cons_zero, List.set_cons_succ]
            refine takeU_at (i := 55) (d := (some 90)) rfl (by kernel_rfl) (by kernel_rfl) (by kernel_rfl) (by kernel_rfl) hR (by kernel_rfl) hS3 ?_
            try simp only [Act.put, List.setIfInBounds_toArray, List.set_cons_zero, List.set_cons_succ]
            refine takeU_at (i := 56) (d := (some 91)) rfl (by kernel_rfl) (by kernel_rfl) (by kernel_rfl) (by kernel_rfl) hR (by kernel_rfl) hS3 ?_
            try simp only [Act.put, List.setIfInBounds_toArray, List.set_cons_zero, List.set_cons_succ]
            refine takeU_at (i := 57) (d := (some 92)) rfl (by kernel_rfl) (by kernel_rfl) (by kernel_rfl) (by kernel_rfl) hR (by kernel_rfl) hS3 ?_
            try simp only [Act.put, List.setIfInBounds_toArray, List.set_cons_zero, List.set_cons_succ]
            clear c0 c1
            refine takeH_at (i := 58) (d := (some 93)) (v := .bool true) rfl (by kernel_rfl) (by kernel_rfl) (by kernel_rfl) (by kernel_rfl) hR (by kernel_rfl) (fun w _ => by kernel_rfl) hS3 ?_
            try simp only [Act.put, List.setIfInBounds_toArray, List.set_cons_zero, List.set_cons_succ]
            refine takeH_at (i := 59) (d := (some 94)) (v := .bool true) rfl (by kernel_rfl) (by kernel_rfl) (by kernel_rfl) (by kernel_rfl) hR (by kernel_rfl) (fun w _ => by kernel_rfl) hS3 ?_
            try simp only [Act.put, List.setIfInBounds_toArray, List.set_cons_zero, List.set_cons_succ]
            refine takeH_at (i := 60) (d := (some 4)) (v := .bool true) rfl (by kernel_rfl) (by kernel_rfl) (by kernel_rfl) (by kernel_rfl) hR (by kernel_rfl) (fun w _ => by kernel_rfl) hS3 ?_
            try simp only [Act.put, List.setIfInBounds_toArray, List.set_cons_zero, List.set_cons_succ]
            refine wpAnyH_done (by kernel_rfl) ?_ _
            refine hN _ _ ?_
            go_wp2_with fail
            go_ret
            exact ⟨rfl, below_step HB.out hS3⟩
          · skip
            refine takeH_at (i := 48) (d := (some 83)) (v := .bool false) rfl (by kernel_rfl) (by kernel_rfl) (by kernel_rfl) (by kernel_rfl) hR (by kernel_rfl) (fun w hw => by have h := cell_keep c1 hw; go_simp) hS3 ?_
            try simp only [Act.put, List.setIfInBounds_toArray, List.set_cons_zero, List.set_cons_succ]
            refine takeH_at (i := 49) (d := (some 84)) (v := .bool false) rfl (by kernel_rfl) (by kernel_rfl) (by kernel_rfl) (by kernel_rfl) hR (by kernel_rfl) (fun w _ => by kernel_rfl) hS3 ?_
            try simp only [Act.put, List.setIfInBounds_toArray, List.set_cons_zero, List.set_cons_succ]
            refine takeH_at (i := 50) (d := (some 85)) (v := .string u) rfl (by kernel_rfl) (by kernel_rfl) (by kernel_rfl) (by kernel_rfl) hR (by kernel_rfl) (fun w _ => by kernel_rfl) hS3 ?_
            try simp only [Act.put, List.setIfInBounds_toArray, List.set_cons_zero, List.set_cons_succ]
            refine takeH_at (i := 51) (d := (some 86)) (v := .int .i64 k) rfl (by kernel_rfl) (by kernel_rfl) (by kernel_rfl) (by kernel_rfl) hR (by kernel_rfl) (fun w _ => by kernel_rfl) hS3 ?_
            try simp only [Act.put, List.setIfInBounds_toArray, List.set_cons_zero, List.set_cons_succ]
            refine takeH_at (i := 53) (d := (some 88)) (v := .pointer (some ⟨w1.heap.size + 3, 0, none⟩)) rfl (by kernel_rfl) (by kernel_rfl) (by kernel_rfl) (by kernel_rfl) hR (by kernel_rfl) (fun w _ => by kernel_rfl) hS3 ?_
            try simp only [Act.put, List.setIfInBounds_toArray, List.set_cons_zero, List.set_cons_succ]
            refine takeH_at (i := 54) (d := (some 89)) (v := .string rD) rfl (by kernel_rfl) (by kernel_rfl) (by kernel_rfl) (by kernel_rfl) hR (by kernel_rfl) (fun w hw => by have h := cell_keep c0 hw; go_simp) hS3 ?_
            try simp only [Act.put, List.setIfInBounds_toArray, List.set_cons_zero, List.set_cons_succ]
            refine takeH_at (i := 56) (d := (some 91)) (v := .string s) rfl (by kernel_rfl) (by kernel_rfl) (by kernel_rfl) (by kernel_rfl) hR (by kernel_rfl) (fun w _ => by kernel_rfl) hS3 ?_
            try simp only [Act.put, List.setIfInBounds_toArray, List.set_cons_zero, List.set_cons_succ]
            refine wpAnyH_ready (rs := [52]) (by kernel_rfl) (by simp) ?_
            refine AllReadyH.cons rfl (fun K hK => ?_) AllReadyH.nil
            go_simp
            refine (Fixed_any u hu k _).mono ?_; rintro e V4 ⟨rfl, hc⟩
            try go_wp2_with fail
            refine hK.out _ _ (below_step hS3 hc) (fun hS4 => ?_); clear hK K hc
            try simp only [Act.put, List.setIfInBounds_toArray, List.set_cons_zero, List.set_cons_succ]
            have hz : s.size ≤ 300 := hl; rw [← eq, ByteArray.size_append] at hz
            refine takeH_at (i := 55) (d := (some 90)) (v := .string s) rfl (by kernel_rfl) (by kernel_rfl) (by kernel_rfl) (by kernel_rfl) hR (by kernel_rfl) (fun w _ => by go_simp <;> omega) hS4 ?_
            try simp only [Act.put, List.setIfInBounds_toArray, List.set_cons_zero, List.set_cons_succ]
            clear hz
            refine takeH_at (i := 57) (d := (some 92)) (v := .bool true) rfl (by kernel_rfl) (by kernel_rfl) (by kernel_rfl) (by kernel_rfl) hR (by kernel_rfl) (fun w _ => eql_yes w s _ (by kernel_rfl)) hS4 ?_
            try simp only [Act.put, List.setIfInBounds_toArray, List.set_cons_zero, List.set_cons_succ]
            clear c0 c1 eq
            refine takeH_at (i := 58) (d := (some 93)) (v := .bool true) rfl (by kernel_rfl) (by kernel_rfl) (by kernel_rfl) (by kernel_rfl) hR (by kernel_rfl) (fun w _ => by kernel_rfl) hS4 ?_
            try simp only [Act.put, List.setIfInBounds_toArray, List.set_cons_zero, List.set_cons_succ]
            refine takeH_at (i := 59) (d := (some 94)) (v := .bool true) rfl (by kernel_rfl) (by kernel_rfl) (by kernel_rfl) (by kernel_rfl) hR (by kernel_rfl) (fun w _ => by kernel_rfl) hS4 ?_
            try simp only [Act.put, List.setIfInBounds_toArray, List.set_cons_zero, List.set_cons_succ]
            refine takeH_at (i := 60) (d := (some 4)) (v := .bool true) rfl (by kernel_rfl) (by kernel_rfl) (by kernel_rfl) (by kernel_rfl) hR (by kernel_rfl) (fun w _ => by kernel_rfl) hS4 ?_
            try simp only [Act.put, List.setIfInBounds_toArray, List.set_cons_zero, List.set_cons_succ]
            refine wpAnyH_done (by kernel_rfl) ?_ _
            refine hN _ _ ?_
            go_wp2_with fail
            go_ret
            exact ⟨rfl, below_step HB.out hS4⟩
end Go.Proofs.Ytkknagfeceljdaa
