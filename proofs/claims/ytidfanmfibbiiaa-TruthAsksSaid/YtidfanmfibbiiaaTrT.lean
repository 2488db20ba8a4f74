import Derived.Test.YtidfanmfibbiiaaTrE
import Derived.Test.YtidfanmfibbiiaaTrI
/-
  What slices.Equal of samples comes to.
-/
namespace Go.Proofs.Ytidfanmfibbiiaa
open Go.RowKit
theorem sams_eq {s u : Nat → Sam} {n m : Nat} : ((List.range n).map s = (List.range m).map u) ↔ n = m ∧ ∀ i, i < n → s i = u i := by
  constructor
  · intro h
    have hn : n = m := by simpa using congrArg List.length h
    refine ⟨hn, fun i hi => ?_⟩
    have := congrArg (fun L => L[i]?) h
    simp [hi, hn ▸ hi] at this
    exact this
  · rintro ⟨rfl, h⟩
    exact List.map_congr_left (fun i hi => h i (List.mem_range.1 hi))
set_option maxRecDepth 100000 in
set_option maxHeartbeats 1000000 in
theorem Equal_any (A B : Option Addr) (n m c d : Nat) (hn : n ≤ 1000) (hm : m ≤ 1000) (s u : Nat → Sam) (w : World) (hA : Row 2 (sx s) w A n) (hB : Row 2 (sx u) w B m) :
    Calls Try.prog 28 #[.slice A n c, .slice B m d] w fun e w' => e = .returned (.bool (decide ((List.range n).map s = (List.range m).map u))) ∧ Below w.heap.size w w' := by
  by_cases hnm : n = m
  · subst hnm
    have HA := Lib.hid hA; have HB := Lib.hid hB
    have b0 : ((n : Int) == (n : Int)) = true := by simp
    have heg : Try.prog.eqGuardType Try.prog.depth 51 = false := by kernel_rfl
    clear hA hB
    go_enter Try.func28, Try.ntmps28
    go_wp2_with fail
    go_loopw [5, 13] (fun _ i wr => ∃ k : Nat, k ≤ n ∧ i = .int .i64 k ∧ (∀ i, i < k → s i = u i) ∧ DrewOf w wr) (fun _ i _ => n - (intOf i).toNat)
    case atStart => exact ⟨0, by omega, rfl, fun i hi => by omega, ⟨0, rfl⟩⟩
    case round =>
      obtain ⟨k, hk, rfl, hall, q, rfl⟩ := hrel
      have HL := Lib.hid hall; clear hall
      by_cases hlt : k < n
      · obtain ⟨ad, rfl, c0, c1⟩ := HA.out.at_ (Below.refl _ _) hlt
        obtain ⟨bd, rfl, e0, e1⟩ := HB.out.at_ (Below.refl _ _) hlt
        have x0 := c0 (by decide); have x1 := c1 1 (by decide) (by decide)
        have y0 := e0 (by decide); have y1 := e1 1 (by decide) (by decide)
        have v0 : sx s k 0 = .int .i64 (s k).t := rfl
        have v1 : sx s k 1 = .int .u64 (s k).v := rfl
        have v2 : sx u k 0 = .int .i64 (u k).t := rfl
        have v3 : sx u k 1 = .int .u64 (u k).v := rfl
        rw [v0] at x0; rw [v1] at x1; rw [v2] at y0; rw [v3] at y1
        have i1 : (k : Int) < (n : Int) := by omega
        have i0 : (0 : Int) ≤ (k : Int) := by omega
        have d1 : decide ((k : Int) < (n : Int)) = true := decide_eq_true i1
        clear c0 c1 e0 e1 v0 v1 v2 v3
        by_cases he : s k = u k
        · have hel := fun W => run_eq_sam W (s k).t (s k).v (u k).t (u k).v true (by rw [he]; simp)
          have HN : Hid (∀ i, i < k + 1 → s i = u i) := Lib.hid (fun i hi => by
            by_cases e : i = k
            · rw [e]; exact he
            · exact HL.out i (by omega))
          clear he HL
          generalize (s k).t = a1 at *
          generalize (s k).v = a2 at *
          generalize (u k).t = a3 at *
          generalize (u k).v = a4 at *
          go_wp2_with fail
          go_quiet (fail)
          go_wp2_with fail
          go_roundw
          case rel => exact ⟨k + 1, by omega, by go_num, HN.out, _, rfl⟩
          case measure => simp [intOf]; omega
        · have hel := fun W => run_eq_sam W (s k).t (s k).v (u k).t (u k).v false (by
            rcases hs : s k with ⟨a, b⟩
            rcases hu : u k with ⟨a2, b2⟩
            rw [hs, hu] at he
            simp only [Sam.mk.injEq, not_and] at he
            by_cases h1 : a = a2
            · subst h1
              simp only [decide_true, Bool.true_and]
              exact (decide_eq_false (he rfl)).symm
            · simp [h1])
          have HR : Hid (decide ((List.range n).map s = (List.range n).map u) = false) := Lib.hid (decide_eq_false (fun h => he ((sams_eq.1 h).2 k hlt)))
          clear he HL
          generalize (s k).t = a1 at *
          generalize (s k).v = a2 at *
          generalize (u k).t = a3 at *
          generalize (u k).v = a4 at *
          go_wp2_with fail
          go_quiet (fail)
          go_wp2_with fail
          go_ret
          exact ⟨by rw [HR.out]; rfl, (Below.refl w.heap.size w).grown (DrewOf.grown ⟨_, World.drewN_drewN _ _ _⟩ none) (Nat.le_refl _) (fun r (e : none = some r) => by cases e)⟩
      · obtain rfl : k = n := by omega
        have d1 : decide ((k : Int) < (k : Int)) = false := by simp
        have HR : Hid (decide ((List.range k).map s = (List.range k).map u) = true) := Lib.hid (decide_eq_true (sams_eq.2 ⟨rfl, HL.out⟩))
        go_wp2_with fail
        go_ret
        exact ⟨by rw [HR.out]; rfl, (Below.refl w.heap.size w).grown (DrewOf.grown ⟨q, rfl⟩ none) (Nat.le_refl _) (fun r (e : none = some r) => by cases e)⟩
  · have b0 : ((n : Int) == (m : Int)) = false := by simpa using (fun h => hnm (Int.ofNat_inj.1 h))
    have HR : Hid (decide ((List.range n).map s = (List.range m).map u) = false) := Lib.hid (decide_eq_false (fun h => hnm (sams_eq.1 h).1))
    clear hA hB
    go_enter Try.func28, Try.ntmps28
    go_wp2_with fail
    go_ret
    exact ⟨by rw [HR.out]; rfl, Below.refl _ _⟩
end Go.Proofs.Ytidfanmfibbiiaa
/-
  What Same of two states comes to.
-/
namespace Go.Proofs.Ytidfanmfibbiiaa
open Go.RowKit
theorem ser_eq {a b : SerAt} : a.ser = b.ser ↔ a.labs = b.labs ∧ a.last = b.last ∧ (List.range a.sn).map a.s = (List.range b.sn).map b.s := by
  unfold SerAt.ser
  rw [Tr.Ser.mk.injEq]
  constructor
  · rintro ⟨h1, h2, h3⟩; exact ⟨h1, h3, h2⟩
  · rintro ⟨h1, h2, h3⟩; exact ⟨h1, h3, h2⟩
theorem sers_eq {q p : Nat → SerAt} {n m : Nat} : sers q n = sers p m ↔ n = m ∧ ∀ i, i < n → (q i).ser = (p i).ser := by
  constructor
  · intro h
    have hn : n = m := by simpa [sers] using congrArg List.length h
    refine ⟨hn, fun i hi => ?_⟩
    have := congrArg (fun L => L[i]?) h
    simp only [sers_get hi, sers_get (hn ▸ hi)] at this
    exact Option.some.inj this
  · rintro ⟨rfl, h⟩
    unfold sers
    exact List.map_congr_left (fun i hi => h i (List.mem_range.1 hi))
set_option maxRecDepth 100000 in
set_option maxHeartbeats 2000000 in
theorem SSame_any (A B : Option Addr) (n m c d : Nat) (q p : Nat → SerAt) (fl fl2 : Int) (w : World) (hA : Sers w A n c q) (hB : Sers w B m d p) (r : Bool) (hr : r = true ↔ fl = fl2 ∧ sers q n = sers p m) :
    Calls Try.prog 13 #[.agg #[.slice A n c, .int .i64 fl], .agg #[.slice B m d, .int .i64 fl2]] w fun e w' => e = .returned (.bool r) ∧ Below w.heap.size w w' := by
  obtain ⟨w1, hw1⟩ : ∃ w1, w1 = (w.alloc (.cells #[.slice A n c, .int .i64 fl] 28)).alloc (.cells #[.slice B m d, .int .i64 fl2] 28) := ⟨_, rfl⟩
  have hb1 : Below w.heap.size w w1 := by rw [hw1]; exact ((Below.refl _ _).alloc (Nat.le_refl _) _).alloc (by simp) _
  have hc0 : w1.heap[w.heap.size]? = some (.cells #[.slice A n c, .int .i64 fl] 28 (0, 0)) := by rw [hw1]; exact heap_alloc2_old w _ _
  have hc1 : w1.heap[w.heap.size + 1]? = some (.cells #[.slice B m d, .int .i64 fl2] 28 (0, 0)) := by rw [hw1]; exact heap_alloc2_new w _ _
  have z00 : w1.cell? ⟨w.heap.size, 0, none⟩ = some (.slice A n c) := cell_of_row _ _ _ _ _ _ hc0
  have z01 : w1.cell? ⟨w.heap.size, 1, none⟩ = some (.int .i64 fl) := cell_of_row _ _ _ _ _ _ hc0
  have z10 : w1.cell? ⟨w.heap.size + 1, 0, none⟩ = some (.slice B m d) := cell_of_row _ _ _ _ _ _ hc1
  have z11 : w1.cell? ⟨w.heap.size + 1, 1, none⟩ = some (.int .i64 fl2) := cell_of_row _ _ _ _ _ _ hc1
  rw [hw1] at z00 z01 z10 z11
  have HB1 := Lib.hid hb1; have HC1 := Lib.hid hc1
  have HA := Lib.hid (hA.later hb1); have HBB := Lib.hid (hB.later hb1)
  have hn := hA.few; have hm := hB.few
  clear hA hB hb1 hc0 hc1
  by_cases hf : fl = fl2
  · by_cases hnm : n = m
    · subst hf; subst hnm
      have b1 : (fl == fl) = true := by simp
      have b2 : ((n : Int) == (n : Int)) = true := by simp
      have HRR := Lib.hid hr
      clear hr
      go_enter Try.func13, Try.ntmps13
      go_wp2_with fail
      rw [← hw1]
      clear hw1 z00 z01 z10 z11
      go_loopw [5, 6, 7, 25] (fun _ _ _ i wr => ∃ k : Nat, k ≤ n ∧ i = .int .i64 k ∧ (∀ j, j < k → (q j).ser = (p j).ser) ∧ Below w1.heap.size w1 wr) (fun _ _ _ i _ => n - (intOf i).toNat)
      case atStart => exact ⟨0, by omega, rfl, fun j hj => by omega, Below.refl _ _⟩
      case round =>
        obtain ⟨k, hk, rfl, hall, hb⟩ := hrel
        have HL := Lib.hid hall; have HB := Lib.hid hb; clear hall hb
        by_cases hlt : k < n
        · obtain ⟨ad, rfl, cc0, cc1⟩ := HA.out.row.at_ HB.out hlt
          have x0 := cc0 (by decide); have x1 := cc1 1 (by decide) (by decide); have x2 := cc1 2 (by decide) (by decide)
          have v0 : rx q k 0 = .slice (q k).la (q k).ln (q k).lc := rfl
          have v1 : rx q k 1 = .slice (q k).sa (q k).sn (q k).sc := rfl
          have v2 : rx q k 2 = .int .i64 (q k).last := rfl
          rw [v0] at x0; rw [v1] at x1; rw [v2] at x2
          obtain ⟨w8, hw8⟩ : ∃ w8, w8 = wr.alloc (.cells #[.slice (q k).la (q k).ln (q k).lc, .slice (q k).sa (q k).sn (q k).sc, .int .i64 (q k).last] 48) := ⟨_, rfl⟩
          have hR8 : Below wr.heap.size wr w8 := by rw [hw8]; exact (Below.refl _ _).alloc (Nat.le_refl _) _
          have hB8 := below_step HB.out hR8
          obtain ⟨bd, rfl, ee0, ee1⟩ := HBB.out.row.at_ hB8 hlt
          have y0 := ee0 (by decide); have y1 := ee1 1 (by decide) (by decide); have y2 := ee1 2 (by decide) (by decide)
          have u0 : rx p k 0 = .slice (p k).la (p k).ln (p k).lc := rfl
          have u1 : rx p k 1 = .slice (p k).sa (p k).sn (p k).sc := rfl
          have u2 : rx p k 2 = .int .i64 (p k).last := rfl
          rw [u0] at y0; rw [u1] at y1; rw [u2] at y2
          have s0 : w8.cell? ⟨w.heap.size + 1, 0, none⟩ = some (.slice (some bd) n d) := cell_of_row _ _ _ _ _ _ (heap_keep HC1.out hB8)
          obtain ⟨w9, hw9⟩ : ∃ w9, w9 = w8.alloc (.cells #[.slice (p k).la (p k).ln (p k).lc, .slice (p k).sa (p k).sn (p k).sc, .int .i64 (p k).last] 48) := ⟨_, rfl⟩
          have hR9 : Below w8.heap.size w8 w9 := by rw [hw9]; exact (Below.refl _ _).alloc (Nat.le_refl _) _
          have HB9 := Lib.hid (below_step hB8 hR9)
          have h8z : w8.heap.size = wr.heap.size + 1 := by rw [hw8]; simp
          have hX9 : w9.heap[wr.heap.size]? = some (.cells #[.slice (q k).la (q k).ln (q k).lc, .slice (q k).sa (q k).sn (q k).sc, .int .i64 (q k).last] 48 (0, 0)) := heap_keep (by rw [hw8]; exact heap_alloc_new wr _) hR9
          have hY9 : w9.heap[wr.heap.size + 1]? = some (.cells #[.slice (p k).la (p k).ln (p k).lc, .slice (p k).sa (p k).sn (p k).sc, .int .i64 (p k).last] 48 (0, 0)) := by rw [← h8z, hw9]; exact heap_alloc_new w8 _
          have HX9 := Lib.hid hX9; have HY9 := Lib.hid hY9
          have p0 : w9.cell? ⟨wr.heap.size, 0, none⟩ = some (.slice (q k).la (q k).ln (q k).lc) := cell_of_row _ _ _ _ _ _ hX9
          have p1 : w9.cell? ⟨wr.heap.size + 1, 0, none⟩ = some (.slice (p k).la (p k).ln (p k).lc) := cell_of_row _ _ _ _ _ _ hY9
          have i1 : (k : Int) < (n : Int) := by omega
          have i0 : (0 : Int) ≤ (k : Int) := by omega
          have d1 : decide ((k : Int) < (n : Int)) = true := decide_eq_true i1
          have hEq := (HA.out.each k hlt).later HB9.out
          have hEp := (HBB.out.each k hlt).later HB9.out
          have HSA := Lib.hid (Same_any (q k).la (p k).la (q k).ln (p k).ln (q k).lc (p k).lc (Nat.le_trans hEq.lfew (by unfold maxLen; omega)) (q k).f (p k).f w9 hEq.labs hEp.labs)
          have HEQ := Lib.hid (fun W (hb : Below w9.heap.size w9 W) => Equal_any (q k).sa (p k).sa (q k).sn (p k).sn (q k).sc (p k).sc hEq.sfew hEp.sfew (q k).s (p k).s W (hEq.sams.later hb) (hEp.sams.later hb))
          have hlab := La.same_iff (q k).f (p k).f (q k).ln (p k).ln
          have HNO : Hid (¬ (q k).ser = (p k).ser → r = false) := Lib.hid (fun h => by
            cases r
            · rfl
            · exact absurd ((sers_eq.1 (HRR.out.1 rfl).2).2 k hlt) h)
          have HYES : Hid ((q k).ser = (p k).ser → ∀ j, j < k + 1 → (q j).ser = (p j).ser) := Lib.hid (fun h j hj => by
            by_cases e : j = k
            · rw [e]; exact h
            · exact HL.out j (by omega))
          have HSE := Lib.hid (ser_eq (a := q k) (b := p k))
          rw [hw8] at y0 y1 y2 s0
          rw [hw8] at hw9
          rw [hw9] at p0 p1
          clear cc0 cc1 ee0 ee1 v0 v1 v2 u0 u1 u2 hR8 hR9 hB8 h8z hX9 hY9 hEq hEp HL
          go_wp2_with fail
          rw [← hw9]
          refine HSA.out.mono ?_; rintro e w10 ⟨rfl, hb10⟩
          have HB10 := Lib.hid (below_step HB9.out hb10)
          have hX := heap_keep HX9.out hb10
          have hY := heap_keep HY9.out hb10
          have q1 : w10.cell? ⟨wr.heap.size, 1, none⟩ = some (.slice (q k).sa (q k).sn (q k).sc) := cell_of_row _ _ _ _ _ _ hX
          have q2 : w10.cell? ⟨wr.heap.size, 2, none⟩ = some (.int .i64 (q k).last) := cell_of_row _ _ _ _ _ _ hX
          have q3 : w10.cell? ⟨wr.heap.size + 1, 1, none⟩ = some (.slice (p k).sa (p k).sn (p k).sc) := cell_of_row _ _ _ _ _ _ hY
          have q4 : w10.cell? ⟨wr.heap.size + 1, 2, none⟩ = some (.int .i64 (p k).last) := cell_of_row _ _ _ _ _ _ hY
          have HE10 := Lib.hid (HEQ.out w10 hb10)
          have HLAB := Lib.hid hlab
          clear hX hY hb10 p0 p1 x0 x1 x2 y0 y1 y2 s0 hw8 hw9 HX9 HY9 HEQ hlab
          generalize (decide ((q k).ln = (p k).ln) && La.same (q k).f (p k).f (q k).ln) = lb at *
          cases lb
          · have HF : Hid (r = false) := Lib.hid (HNO.out (fun h => by
              have := HLAB.out.2 (HSE.out.1 h).1
              cases this))
            clear HNO HYES
            go_wp2_with fail
            go_ret
            exact ⟨by rw [HF.out]; rfl, below_step HB1.out HB10.out⟩
          · by_cases hla : (q k).last = (p k).last
            · have b3 : ((q k).last == (p k).last) = true := by simpa using hla
              go_wp2_with fail
              refine HE10.out.mono ?_; rintro e w11 ⟨rfl, hb11⟩
              have HB11 := Lib.hid (below_step HB10.out hb11); clear hb11
              by_cases hs : (List.range (q k).sn).map (q k).s = (List.range (p k).sn).map (p k).s
              · have hY := HYES.out (HSE.out.2 ⟨HLAB.out.1 (by simp), hla, hs⟩)
                have HYY := Lib.hid hY
                have d3 := decide_eq_true hs
                clear hY hs HYES HNO
                go_wp2_with fail
                go_roundw
                case rel => exact ⟨k + 1, by omega, by go_num, HYY.out, HB11.out⟩
                case measure => simp [intOf]; omega
              · have HF : Hid (r = false) := Lib.hid (HNO.out (fun h => hs (HSE.out.1 h).2.2))
                have d3 := decide_eq_false hs
                clear hs HYES HNO
                go_wp2_with fail
                go_ret
                exact ⟨by rw [HF.out]; rfl, below_step HB1.out HB11.out⟩
            · have b3 : ((q k).last == (p k).last) = false := by simpa using hla
              have HF : Hid (r = false) := Lib.hid (HNO.out (fun h => hla (HSE.out.1 h).2.1))
              clear HNO HYES
              go_wp2_with fail
              go_ret
              exact ⟨by rw [HF.out]; rfl, below_step HB1.out HB10.out⟩
        · obtain rfl : k = n := by omega
          have d1 : decide ((k : Int) < (k : Int)) = false := by simp
          have HT : Hid (r = true) := Lib.hid (HRR.out.2 ⟨by simp, sers_eq.2 ⟨rfl, HL.out⟩⟩)
          go_wp2_with fail
          go_ret
          exact ⟨by rw [HT.out]; rfl, below_step HB1.out HB.out⟩
    · subst hf
      have b1 : (fl == fl) = true := by simp
      have b2 : ((n : Int) == (m : Int)) = false := by simpa using (fun h => hnm (Int.ofNat_inj.1 h))
      obtain rfl : r = false := by
        cases r
        · rfl
        · exact absurd (sers_eq.1 (hr.1 rfl).2).1 hnm
      rw [hw1] at HB1
      clear hr hw1 HA HBB HC1
      go_enter Try.func13, Try.ntmps13
      go_wp2_with fail
      go_ret
      exact ⟨rfl, HB1.out⟩
  · have b1 : (fl == fl2) = false := by simpa using hf
    obtain rfl : r = false := by
      cases r
      · rfl
      · exact absurd (hr.1 rfl).1 hf
    rw [hw1] at HB1
    clear hr hw1 HA HBB HC1
    go_enter Try.func13, Try.ntmps13
    go_wp2_with fail
    go_ret
    exact ⟨rfl, HB1.out⟩
end Go.Proofs.Ytidfanmfibbiiaa
