/-
  WalNothing: the walk.
-/
import Derived.Test.YtaillfnmaiiapaaWaXb
import Derived.Test.YtaillfnmaiiapaaWbO
namespace Go.Proofs.Ytaillfnmaiiapaa
open Go.RowKit
open Go.ChangeShapes Go.WideShapes
set_option maxRecDepth 100000 in
set_option maxHeartbeats 8000000 in
theorem walNothing_walk {H : Type} {enc : TypeId × Value → H} {r1 : Reach} {b1 : Nat} {v1 : Value} {d1 : DataW H} {p1 : List MemPlace} {r2 : Reach} {b2 : Nat} {v2 : Value} {d2 : DataW H} {p2 : List MemPlace} (w : World)
    (g : Int) (_wg : (Lit.int .i64 g).wf = true)
    (o1 : Value.okWide Try.prog w r1 b1 30 v1) (k1 : DataW.Trod enc Try.prog w 0 (fun _ => true) true 30 v1 d1 p1)
    (o2 : Value.okWide Try.prog w r2 b2 25 v2) (k2 : DataW.Trod enc Try.prog w 0 (fun _ => true) true 25 v2 d2 p2) :
    Calls Try.prog 7 #[.int .i64 g, v1, v2] w fun e w' => e = .returned (.bool true) ∧ Below w.heap.size w w' := by
  obtain ⟨A, K, c, rfl, hK, hn1, hA⟩ := open_keys o1 k1
  obtain ⟨B, n, c2, q, rfl, hn, hn2, hB⟩ := open_recs o2 k2
  clear o1 k1 o2 k2
  have HA := Lib.hid hA; have HR := Lib.hid hB
  clear hA hB
  have HFR := Lib.hid (fun U (hU : Below w.heap.size w U) => FewRecs_any B n c2 hn q U (HR.out.later hU))
  have HFK := Lib.hid (fun U (hU : Below w.heap.size w U) => fewKeys_any A K c hK U (HA.out.later hU))
  go_enter Try.func7, Try.ntmps7
  go_wp2_with fail
  refine (works_any _).mono ?_; rintro e w1 ⟨rfl, hb1⟩
  have HB1 := Lib.hid hb1
  clear hb1
  go_wp2_with fail
  refine (HFR.out _ HB1.out).mono ?_; rintro e w2 ⟨rfl, hb2⟩
  have HB2 := Lib.hid (below_step HB1.out hb2)
  clear hb2 HB1
  obtain ⟨f1, hf1⟩ : ∃ f1, f1 = fewR q n := ⟨_, rfl⟩
  rw [← hf1]
  have HF1 := Lib.hid hf1
  clear hf1
  cases f1 with
  | false =>
    go_wp2_with fail
    go_ret
    exact ⟨rfl, HB2.out⟩
  | true =>
    have HRI : Hid (RecsIn w B n q) := Lib.hid (HR.out.in_ HF1.out.symm)
    have hn40 := (fewR_yes HF1.out.symm).1
    go_wp2_with fail
    refine (HFK.out _ HB2.out).mono ?_; rintro e w3 ⟨rfl, hb3⟩
    have HB3 := Lib.hid (below_step HB2.out hb3)
    clear hb3 HB2
    obtain ⟨f2, hf2⟩ : ∃ f2, f2 = fewK K := ⟨_, rfl⟩
    rw [← hf2]
    have HF2 := Lib.hid hf2
    clear hf2
    cases f2 with
    | false =>
      go_wp2_with fail
      go_ret
      exact ⟨rfl, HB3.out⟩
    | true =>
      obtain ⟨hk30, hks⟩ := fewK_yes HF2.out.symm
      have hks2 : ∀ k ∈ K, k.size ≤ maxLen := fun k hk => by have := hks k hk; unfold maxLen; omega
      have HP0 := Lib.hid (fun U (hU : Below w.heap.size w U) => lawPut_any g K (by omega) hks2 A c hn1 none 0 0 q (by omega) U (HA.out.later hU) ⟨fun h => absurd h (Nat.lt_irrefl 0), fun i hi => absurd hi (Nat.not_lt_zero i), Nat.zero_le _⟩)
      have HP1 := Lib.hid (fun U (hU : Below w.heap.size w U) => lawPut_any g K (by omega) hks2 A c hn1 B n c2 q (by omega) U (HA.out.later hU) (HRI.out.later hU))
      unfold LawPut at HP0 HP1
      simp only [Wa.putR_nothing] at HP0
      obtain ⟨e0, he0⟩ : ∃ e0 : Int, e0 = if 1 ≤ g ∧ g ≤ 3 then 0 else 1 := ⟨_, rfl⟩
      simp only [← he0] at HP0
      obtain ⟨R2, hR2⟩ : ∃ R2, R2 = Wa.putR g K (recF q) n := ⟨_, rfl⟩
      rw [← hR2] at HP1
      have hno : R2.2.2 ≠ 0 → R2.1 = ByteArray.empty ∧ R2.2.1 = K := by rw [hR2]; exact Wa.putR_no
      have hgr : K.length ≤ R2.2.1.length := by rw [hR2]; exact Wa.putR_grow _ _ _ _
      clear hR2
      obtain ⟨t, KK, er⟩ := R2
      simp only at hno hgr HP1
      have HNO := Lib.hid hno; have HGR := Lib.hid hgr; have HE0 := Lib.hid he0; have HK30 := Lib.hid hk30
      clear hks hks2 hno hgr he0 hn40 hn1 hn2 hK hn hk30 HFR HFK HR HF1 HF2 HRI
      go_wp2_with fail
      have hb3a := below_step HB3.out ((Below.refl w3.heap.size w3).alloc (Nat.le_refl _) (.cells #[.int .i64 g, .slice A K.length c] 32))
      obtain ⟨wa, hwa⟩ : ∃ wa, wa = w3.alloc (.cells #[.int .i64 g, .slice A K.length c] 32) := ⟨_, rfl⟩
      have hx3 : wa.heap[w3.heap.size]? = some (.cells #[.int .i64 g, .slice A K.length c] 32 (0, 0)) := by rw [hwa]; exact heap_alloc_new w3 _
      rw [← hwa] at hb3a ⊢
      obtain ⟨bw, hbw⟩ : ∃ bw, bw = w3.heap.size := ⟨_, rfl⟩
      rw [← hbw] at hx3 ⊢
      clear hwa hbw
      have HX3 := Lib.hid hx3; have HB3a := Lib.hid hb3a
      clear hx3 hb3a HB3
      refine (HP0.out _ HB3a.out).mono ?_; rintro e w4 ⟨B1, d1, rfl, hr1, -, hb4⟩
      obtain ⟨w5, hw5⟩ : ∃ w5, w5 = w4.alloc (.cells #[.int .i64 g, .slice B1 K.length d1] 32) := ⟨_, rfl⟩
      have hb45 : Below w4.heap.size w4 w5 := by rw [hw5]; exact (Below.refl _ _).alloc (Nat.le_refl _) _
      have hx5 : w5.heap[w4.heap.size]? = some (.cells #[.int .i64 g, .slice B1 K.length d1] 32 (0, 0)) := by rw [hw5]; exact heap_alloc_new w4 _
      obtain ⟨bx, hbx⟩ : ∃ bx, bx = w4.heap.size := ⟨_, rfl⟩
      rw [← hbx] at hx5
      have hba5 := below_step hb4 hb45
      have y0 := cell_of_row _ _ 0 _ _ _ (heap_keep HX3.out hba5); have y1 := cell_of_row _ _ 1 _ _ _ (heap_keep HX3.out hba5)
      simp only [List.getElem?_toArray, List.getElem?_cons_zero, List.getElem?_cons_succ] at y0 y1
      have HR1 := Lib.hid (hr1.later hb45); have HX5 := Lib.hid hx5; have HB5 := Lib.hid (below_step HB3a.out hba5)
      clear hr1 hb4 hb45 hx5 hba5 HP0 HB3a HX3
      go_upto_region 9 with fail
      rw [← hw5, ← hbx]
      clear hw5 hbx
      go_wp2_with fail
      refine (HP1.out _ HB5.out).mono ?_; rintro e w6 ⟨B2, d2, rfl, hr2, -, hb6⟩
      obtain ⟨w7, hw7⟩ : ∃ w7, w7 = w6.alloc (.cells #[.int .i64 g, .slice B2 KK.length d2] 32) := ⟨_, rfl⟩
      have hb67 : Below w6.heap.size w6 w7 := by rw [hw7]; exact (Below.refl _ _).alloc (Nat.le_refl _) _
      have hx7 : w7.heap[w6.heap.size]? = some (.cells #[.int .i64 g, .slice B2 KK.length d2] 32 (0, 0)) := by rw [hw7]; exact heap_alloc_new w6 _
      obtain ⟨bz, hbz⟩ : ∃ bz, bz = w6.heap.size := ⟨_, rfl⟩
      rw [← hbz] at hx7
      have hb57 := below_step hb6 hb67
      have HZ := Lib.hid hx7; have HX := Lib.hid (heap_keep HX5.out hb57); have HR1' := Lib.hid (HR1.out.later hb57); have HR2 := Lib.hid (hr2.later hb67)
      have HB7 := Lib.hid (below_step HB5.out hb57)
      clear hr2 hb6 hb67 hx7 hb57 HP1 HX5 HR1 HB5 y0 y1
      go_upto_region 10 with fail
      rw [← hw7, ← hbz]
      clear hw7 hbz
      have HTX := Lib.hid (fun U (hU : Below w7.heap.size w7 U) => Texts_any B1 A d1 c K K (by have := HK30.out; omega) (by have := HK30.out; omega) U (HR1'.out.later hU) (HA.out.later (below_step HB7.out hU)))
      simp only [decide_true] at HTX
      have hd5 : decide ((K.length : Int) ≤ (KK.length : Int)) = true := by have := HGR.out; simp; omega
      by_cases he : er = 0
      · subst he
        have x0 := cell_of_row _ _ 0 _ _ _ HX.out; have x1 := cell_of_row _ _ 1 _ _ _ HX.out; have z1 := cell_of_row _ _ 1 _ _ _ HZ.out
        simp only [List.getElem?_toArray, List.getElem?_cons_zero, List.getElem?_cons_succ] at x0 x1 z1
        clear HNO HR2
        go_wp2_with fail
        refine (HTX.out _ (Below.refl _ _)).mono ?_; rintro e w8 ⟨rfl, hb8⟩
        have HB8 := Lib.hid (below_step HB7.out hb8)
        clear x0 x1 z1 HTX
        have x0 := cell_of_row _ _ 0 _ _ _ (heap_keep HX.out hb8); have x1 := cell_of_row _ _ 1 _ _ _ (heap_keep HX.out hb8); have z1 := cell_of_row _ _ 1 _ _ _ (heap_keep HZ.out hb8)
        simp only [List.getElem?_toArray, List.getElem?_cons_zero, List.getElem?_cons_succ] at x0 x1 z1
        clear hb8
        have he0 := HE0.out
        by_cases hg1 : 1 ≤ g
        · have c1 : decide ((1 : Int) ≤ g) = true := decide_eq_true hg1
          by_cases hg3 : g ≤ 3
          · have c2 : decide (g ≤ (3 : Int)) = true := decide_eq_true hg3
            rw [if_pos ⟨hg1, hg3⟩] at he0
            subst he0
            clear hg1 hg3
            go_wp2_with fail
            go_ret
            exact ⟨(by first | (simp; done) | (simp; exact HGR.out)), HB8.out⟩
          · have c2 : decide (g ≤ (3 : Int)) = false := decide_eq_false hg3
            rw [if_neg (fun h => hg3 h.2)] at he0
            subst he0
            clear hg1 hg3
            go_wp2_with fail
            go_ret
            exact ⟨(by first | (simp; done) | (simp; exact HGR.out)), HB8.out⟩
        · have c1 : decide ((1 : Int) ≤ g) = false := decide_eq_false hg1
          rw [if_neg (fun h => hg1 h.1)] at he0
          subst he0
          clear hg1
          go_wp2_with fail
          go_ret
          exact ⟨(by first | (simp; done) | (simp; exact HGR.out)), HB8.out⟩
      · obtain ⟨rfl, rfl⟩ := HNO.out he
        have b0 : (er != 0) = true := by simp [he]
        have b0b : (er == 0) = false := by simp [he]
        have HTY := Lib.hid (Texts_any B2 A d2 c KK KK (by have := HK30.out; omega) (by have := HK30.out; omega) w7 HR2.out (HA.out.later HB7.out))
        simp only [decide_true] at HTY
        have z0 := cell_of_row _ _ 0 _ _ _ HZ.out; have z1 := cell_of_row _ _ 1 _ _ _ HZ.out
        simp only [List.getElem?_toArray, List.getElem?_cons_zero, List.getElem?_cons_succ] at z0 z1
        clear HNO HR2
        go_wp2_with fail
        refine HTY.out.mono ?_; rintro e w8 ⟨rfl, hb8⟩
        have HB78 := Lib.hid hb8
        clear z0 z1 HTY hb8
        have x0 := cell_of_row _ _ 0 _ _ _ (heap_keep HX.out HB78.out); have x1 := cell_of_row _ _ 1 _ _ _ (heap_keep HX.out HB78.out); have z1 := cell_of_row _ _ 1 _ _ _ (heap_keep HZ.out HB78.out)
        simp only [List.getElem?_toArray, List.getElem?_cons_zero, List.getElem?_cons_succ] at x0 x1 z1
        go_wp2_with fail
        refine (HTX.out _ HB78.out).mono ?_; rintro e w9 ⟨rfl, hb9⟩
        have hb79 := below_step HB78.out hb9
        have HB8 := Lib.hid (below_step HB7.out hb79)
        clear x0 x1 z1 HTX hb9
        have x0 := cell_of_row _ _ 0 _ _ _ (heap_keep HX.out hb79); have x1 := cell_of_row _ _ 1 _ _ _ (heap_keep HX.out hb79); have z1 := cell_of_row _ _ 1 _ _ _ (heap_keep HZ.out hb79)
        simp only [List.getElem?_toArray, List.getElem?_cons_zero, List.getElem?_cons_succ] at x0 x1 z1
        clear hb79
        have he0 := HE0.out
        by_cases hg1 : 1 ≤ g
        · have c1 : decide ((1 : Int) ≤ g) = true := decide_eq_true hg1
          by_cases hg3 : g ≤ 3
          · have c2 : decide (g ≤ (3 : Int)) = true := decide_eq_true hg3
            rw [if_pos ⟨hg1, hg3⟩] at he0
            subst he0
            clear hg1 hg3
            go_wp2_with fail
            go_ret
            exact ⟨(by first | (simp; done) | (simp; exact HGR.out)), HB8.out⟩
          · have c2 : decide (g ≤ (3 : Int)) = false := decide_eq_false hg3
            rw [if_neg (fun h => hg3 h.2)] at he0
            subst he0
            clear hg1 hg3
            go_wp2_with fail
            go_ret
            exact ⟨(by first | (simp; done) | (simp; exact HGR.out)), HB8.out⟩
        · have c1 : decide ((1 : Int) ≤ g) = false := decide_eq_false hg1
          rw [if_neg (fun h => hg1 h.1)] at he0
          subst he0
          clear hg1
          go_wp2_with fail
          go_ret
          exact ⟨(by first | (simp; done) | (simp; exact HGR.out)), HB8.out⟩
end Go.Proofs.Ytaillfnmaiiapaa
