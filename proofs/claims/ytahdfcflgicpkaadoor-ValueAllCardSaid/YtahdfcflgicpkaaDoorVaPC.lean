/-
  What Get of the document's answer for package value comes to.
-/
import Derived.Test.YtahdfcflgicpkaaDoorVaPB
import Derived.Deep.DeepCutAuto
namespace Go.Proofs.YtahdfcflgicpkaaDoor
open Go.RowKit
/-- what a reading of bits tells -/
def RVGets (L : List Bool) (s : Va.S) (w : World) (e : Ending) (w' : World) : Prop := Below w.heap.size w w' ∧
  ((∃ t, s.got L = some t ∧ e = .returned (.tuple #[(s.next t).val, .string (Bit.str (L.drop (s.cost t))), .bool true])) ∨ (s.got L = none ∧ e = .returned (.tuple #[s.val, .string (Bit.str L), .bool false])))
set_option maxRecDepth 100000 in
set_option maxHeartbeats 4000000 in
theorem rVGet_any (L : List Bool) (hL : L.length ≤ 4000) (s : Va.S) (hok : s.ok) (hn : s.n < 2199023255552) (w : World) :
    Calls Tryd.prog 24 #[.string (Bit.str L), s.val] w (RVGets L s w) := by
  have hval : s.val = .agg #[.int .i64 s.n, .int .u64 s.v, .int .i64 s.l, .int .i64 s.t] := rfl
  have hs : (Bit.str L).size = L.length := Bit.str_size L
  have hvd := fun W => rVValid_any s hok W
  rw [hval] at hvd
  have HVD := Lib.hid hvd; clear hvd
  have hb0 : Below w.heap.size w ((w.alloc (.cells #[.int .i64 s.n, .int .u64 s.v, .int .i64 s.l, .int .i64 s.t] 46)).alloc (.cells #[.int .i64 0, .int .u64 0, .int .i64 0, .int .i64 0] 46)) := ((Below.refl _ _).alloc (Nat.le_refl _) _).alloc (by simp) _
  have hs0 : RVStAt (w.alloc (.cells #[.int .i64 s.n, .int .u64 s.v, .int .i64 s.l, .int .i64 s.t] 46)) w.heap.size s := RowIs.one _ _
  have hs1 := hs0.later ((Below.refl _ _).alloc (Nat.le_refl _) (.cells #[.int .i64 0, .int .u64 0, .int .i64 0, .int .i64 0] 46))
  have hy1 : RVStAt ((w.alloc (.cells #[.int .i64 s.n, .int .u64 s.v, .int .i64 s.l, .int .i64 s.t] 46)).alloc (.cells #[.int .i64 0, .int .u64 0, .int .i64 0, .int .i64 0] 46)) (w.heap.size + 1) ⟨0, 0, 0, 0⟩ := by
    have h : (w.alloc (.cells #[.int .i64 s.n, .int .u64 s.v, .int .i64 s.l, .int .i64 s.t] 46)).heap.size = w.heap.size + 1 := by simp
    rw [← h]; exact RowIs.one _ _
  have hz0 : w.heap.size + 1 < ((w.alloc (.cells #[.int .i64 s.n, .int .u64 s.v, .int .i64 s.l, .int .i64 s.t] 46)).alloc (.cells #[.int .i64 0, .int .u64 0, .int .i64 0, .int .i64 0] 46)).heap.size := by simp
  have HB := Lib.hid hb0; have HS := Lib.hid hs1; have HY := Lib.hid hy1
  clear hb0 hs0 hs1 hy1
  have HOK := Lib.hid hok; clear hok
  rw [hval]
  clear hval
  go_enter Tryd.func24, Tryd.ntmps24
  generalize hwa : (w.alloc (.cells #[.int .i64 s.n, .int .u64 s.v, .int .i64 s.l, .int .i64 s.t] 46)).alloc (.cells #[.int .i64 0, .int .u64 0, .int .i64 0, .int .i64 0] 46) = wa at HB HS HY hz0
  obtain ⟨a0, a1, a2, a3⟩ := HS.out.cells
  go_wp2_with fail
  refine (HVD.out _).mono ?_; rintro e w1 ⟨rfl, hb1⟩
  have HB1 := Lib.hid (HB.out.trans (hb1.mono HB.out.size)); have HS1 := Lib.hid (HS.out.later hb1); have HY1 := Lib.hid (HY.out.later hb1)
  have hz1 : w.heap.size + 1 < w1.heap.size := Nat.lt_of_lt_of_le hz0 hb1.size
  clear hb1 HB HS HY hz0 hwa a0 a1 a2 a3
  obtain ⟨a0, a1, a2, a3⟩ := HS1.out.cells
  obtain ⟨y0, y1, y2, y3⟩ := HY1.out.cells
  obtain ⟨f0, f1, f2, f3⟩ := HY1.out.free
  by_cases hz : L.length = 0
  · have hL0 : L = [] := List.eq_nil_of_length_eq_zero hz
    have HN : Hid (s.got L = none) := Lib.hid (by
      rw [hL0]; unfold Va.S.got
      by_cases h : s.n = 0
      · rw [if_pos h, if_pos (by simp)]
      · rw [if_neg h])
    have d0 : ((L.length : Int) == 0) = true := by simp [hz]
    have hset := (HY1.out.set s).cells
    have hgr := grown_four w1 (w.heap.size + 1) 0 1 2 3 (.int .i64 s.n) (.int .u64 s.v) (.int .i64 s.l) (.int .i64 s.t)
    have HBE := Lib.hid (HB1.out.grown hgr HB1.out.size (fun r e => by cases e; omega))
    have HSET := Lib.hid hset
    clear hset hgr hL0 hz
    go_wp2_with fail
    refine bodyPost_ret (v := .tuple #[.agg #[.int .i64 s.n, .int .u64 s.v, .int .i64 s.l, .int .i64 s.t], .string (Bit.str L), .bool false]) ?_ rfl ⟨HBE.out, .inr ⟨HN.out, rfl⟩⟩
    obtain ⟨e0, e1', e2, e3⟩ := HSET.out
    simp [results, go_sem, e0, e1', e2, e3]
  · have d0 : ((L.length : Int) == 0) = false := by simp [hz]
    have hcl := Va.S.cand_lt HOK.out L
    have hgot := Va.S.got_cand HOK.out L
    have HGOT := Lib.hid hgot; clear hgot
    have hcd : s.cand L = if s.n = 0 then Va.tk L 0 64 0 else
      if L.getD 0 false = true then
        if 1 < L.length ∧ L.getD 1 false = false then Va.tk L 2 (64 - s.l - s.t) s.t
        else if 14 ≤ L.length then Va.tk L 14 (Bit.val ((L.drop 8).take 6) + 1) (64 - (Bit.val ((L.drop 2).take 6) : Int) - ((Bit.val ((L.drop 8).take 6) + 1 : Nat) : Int))
        else (0, false)
      else (0, true) := rfl
    generalize hC : s.cand L = C at *
    have HCD := Lib.hid hcd; have HCL := Lib.hid hcl; clear hcd hcl hC
    have hpos : 0 < L.length := by omega
    have hposI : (0 : Int) < (L.length : Int) := by omega
    have hg0 : (Bit.str L)[0]'(by rw [hs]; omega) = Bit.chr (L.getD 0 false) := Bit.str_get L 0 (by rw [hs]; omega)
    have hT : ∀ (a n : Nat) (up : Int), a ≤ 14 → n ≤ 64 → -64 ≤ up ∧ (n : Int) + up ≤ 64 → ∀ W, Calls Tryd.prog 38 #[.string (Bit.str L), .int .i64 a, .int .i64 n, .int .i64 up] W fun e w' => e = .returned (.tuple #[.int .u64 ((Va.tk L a n up).1 : Nat), .bool (Va.tk L a n up).2]) ∧ w' = W := fun a n up h1 h2 h3 W => rTake_any L a n h1 h2 up h3 W
    have HT := Lib.hid hT; clear hT hz
    have hn0 : (0 : Int) ≤ (s.n : Int) := by omega
    go_upto_if 25 with (fail)
    go_cut [7, 8] (fun a b wx => a = .int .u64 (C.1 : Nat) ∧ b = .bool C.2 ∧ wx = w1)
    case first =>
      by_cases h0 : s.n = 0
      · have g0 : ((s.n : Int) == 0) = true := by simp [h0]
        have ht := HT.out 0 64 0 (by omega) (by omega) (by omega)
        have hc := HCD.out
        rw [if_pos h0] at hc
        rw [← hc] at ht
        have HK := Lib.hid ht; clear ht hc h0
        go_wp2_with fail
        refine (HK.out _).mono ?_; rintro e wx ⟨rfl, rfl⟩
        go_wp2_with fail
        go_meet
        exact ⟨rfl, rfl, rfl⟩
      · have g0 : ((s.n : Int) == 0) = false := by simp [h0]
        have hc := HCD.out
        rw [if_neg h0] at hc
        clear h0
        cases hb : L.getD 0 false with
        | false =>
          rw [hb, if_neg (by decide)] at hc
          rw [hb] at hg0
          have e6 : (((Bit.str L)[0]'(by rw [hs]; omega)).toNat == 49) = false := by rw [hg0]; rfl
          have HC := Lib.hid hc; clear hc hg0 hb
          go_wp2_with fail
          go_meet
          rw [HC.out]
          exact ⟨rfl, rfl, rfl⟩
        | true =>
          rw [hb, if_pos rfl] at hc
          rw [hb] at hg0
          have e6 : (((Bit.str L)[0]'(by rw [hs]; omega)).toNat == 49) = true := by rw [hg0]; rfl
          clear hg0 hb
          by_cases h1 : 1 < L.length
          · have d1 : decide ((1 : Int) < (L.length : Int)) = true := by simp; omega
            have i1 : (1 : Int) < (L.length : Int) := by omega
            have hg1 : (Bit.str L)[1]'(by rw [hs]; omega) = Bit.chr (L.getD 1 false) := Bit.str_get L 1 (by rw [hs]; omega)
            cases hb1 : L.getD 1 false with
            | false =>
              rw [if_pos ⟨h1, hb1⟩] at hc
              rw [hb1] at hg1
              have e7 : (((Bit.str L)[1]'(by rw [hs]; omega)).toNat == 48) = true := by rw [hg1]; rfl
              have hw := HOK.out.w
              have ht := HT.out 2 (64 - s.l - s.t) s.t (by omega) (by omega) (by omega)
              rw [← hc] at ht
              have q1 : wrap64 (64 - (s.l : Int)) = ((64 - s.l : Nat) : Int) := by rw [IntWalk.wrap64_in _ (by omega)]; omega
              have q2 : wrap64 (((64 - s.l : Nat) : Int) - (s.t : Int)) = ((64 - s.l - s.t : Nat) : Int) := by rw [IntWalk.wrap64_in _ (by omega)]; omega
              have q3 : IntKind.i64.wrap (64 - (s.l : Int)) = ((64 - s.l : Nat) : Int) := by rw [IntWalk.i64_in _ (by omega)]; omega
              have q4 : IntKind.i64.wrap (((64 - s.l : Nat) : Int) - (s.t : Int)) = ((64 - s.l - s.t : Nat) : Int) := by rw [IntWalk.i64_in _ (by omega)]; omega
              have HK := Lib.hid ht; clear ht hc hw hg1 hb1
              go_wp2_with fail
              refine (HK.out _).mono ?_; rintro e wx ⟨rfl, rfl⟩
              go_wp2_with fail
              go_meet
              exact ⟨rfl, rfl, rfl⟩
            | true =>
              rw [if_neg (fun h => by rw [hb1] at h; cases h.2)] at hc
              rw [hb1] at hg1
              have e7 : (((Bit.str L)[1]'(by rw [hs]; omega)).toNat == 48) = false := by rw [hg1]; rfl
              clear hg1 hb1
              by_cases h14 : 14 ≤ L.length
              · have d14 : decide ((14 : Int) ≤ (L.length : Int)) = true := by simp; omega
                have i14 : (14 : Int) ≤ (L.length : Int) := by omega
                have i8 : (8 : Int) ≤ (L.length : Int) := by omega
                rw [if_pos h14] at hc
                have x1 : (Bit.str L).extract 2 8 = Bit.str ((L.drop 2).take 6) := Bit.str_extract L 2 8
                have x2 : (Bit.str L).extract 8 14 = Bit.str ((L.drop 8).take 6) := Bit.str_extract L 8 14
                have n1 := fun W => rNumber_any ((L.drop 2).take 6) (by rw [List.length_take]; omega) W
                have n2 := fun W => rNumber_any ((L.drop 8).take 6) (by rw [List.length_take]; omega) W
                have b1 : Bit.val ((L.drop 2).take 6) < 64 := Bit.val_take_lt (L.drop 2) 6
                have b2 : Bit.val ((L.drop 8).take 6) < 64 := Bit.val_take_lt (L.drop 8) 6
                generalize Bit.val ((L.drop 2).take 6) = m1 at *
                generalize Bit.val ((L.drop 8).take 6) = m2 at *
                have ht := HT.out 14 (m2 + 1) (64 - (m1 : Int) - ((m2 + 1 : Nat) : Int)) (by omega) (by omega) (by omega)
                rw [← hc] at ht
                have ht2 : ∀ W, Calls Tryd.prog 38 #[.string (Bit.str L), .int .i64 14, .int .i64 ((m2 : Int) + 1), .int .i64 (64 - (m1 : Int) - ((m2 : Int) + 1))] W fun e w' => e = .returned (.tuple #[.int .u64 (C.1 : Nat), .bool C.2]) ∧ w' = W := ht
                have q0 : wrap64 ((m1 : Nat) : Int) = (m1 : Int) := IntWalk.wrap64_in _ (by omega)
                have q1 : wrap64 ((m2 : Nat) : Int) = (m2 : Int) := IntWalk.wrap64_in _ (by omega)
                have q2 : wrap64 ((m2 : Int) + 1) = (m2 : Int) + 1 := IntWalk.wrap64_in _ (by omega)
                have q3 : wrap64 (64 - (m1 : Int)) = 64 - (m1 : Int) := IntWalk.wrap64_in _ (by omega)
                have q4 : wrap64 (64 - (m1 : Int) - ((m2 : Int) + 1)) = 64 - (m1 : Int) - ((m2 : Int) + 1) := IntWalk.wrap64_in _ (by omega)
                have q5 : IntKind.i64.wrap ((m1 : Nat) : Int) = (m1 : Int) := IntWalk.i64_in _ (by omega)
                have q6 : IntKind.i64.wrap ((m2 : Nat) : Int) = (m2 : Int) := IntWalk.i64_in _ (by omega)
                have HK := Lib.hid ht2; have HN1 := Lib.hid n1; have HN2 := Lib.hid n2; clear ht ht2 hc n1 n2
                go_wp2_with fail
                refine (HN1.out _).mono ?_; rintro e wx ⟨rfl, rfl⟩
                go_wp2_with fail
                refine (HN2.out _).mono ?_; rintro e wx ⟨rfl, rfl⟩
                go_wp2_with fail
                refine (HK.out _).mono ?_; rintro e wx ⟨rfl, rfl⟩
                go_wp2_with fail
                go_meet
                exact ⟨rfl, rfl, rfl⟩
              · have d14 : decide ((14 : Int) ≤ (L.length : Int)) = false := by simp; omega
                have i14 : ¬ (14 : Int) ≤ (L.length : Int) := by omega
                rw [if_neg h14] at hc
                have HC := Lib.hid hc; clear hc h14
                go_wp2_with fail
                go_meet
                rw [HC.out]
                exact ⟨rfl, rfl, rfl⟩
          · have d1 : decide ((1 : Int) < (L.length : Int)) = false := by simp; omega
            have d14 : decide ((14 : Int) ≤ (L.length : Int)) = false := by simp; omega
            have i1 : ¬ (1 : Int) < (L.length : Int) := by omega
            have i14 : ¬ (14 : Int) ≤ (L.length : Int) := by omega
            rw [if_neg (fun h => h1 h.1), if_neg (by omega)] at hc
            have HC := Lib.hid hc; clear hc h1
            go_wp2_with fail
            go_meet
            rw [HC.out]
            exact ⟨rfl, rfl, rfl⟩
    case rest =>
      obtain ⟨rfl, rfl, rfl⟩ := hcut
      clear HCD HT hg0 hposI hn0
      have hx := u64_xor_nat C.1 s.v HCL.out HOK.out.v
      have htl := Va.S.tried_lt HOK.out HCL.out
      have htr : s.tried C.1 = if s.n = 0 then C.1 else C.1 ^^^ s.v := rfl
      go_upto_if 79 with (fail)
      go_cut [7] (fun a wx => a = .int .u64 ((s.tried C.1 : Nat) : Int) ∧ wx = wc)
      case first =>
        by_cases h0 : s.n = 0
        · have g0 : decide ((0 : Int) < (s.n : Int)) = false := by simp; omega
          have g1 : ¬ (0 : Int) < (s.n : Int) := by omega
          have g2 : ¬ 0 < s.n := by omega
          rw [if_pos h0] at htr
          have HTR := Lib.hid htr; clear htr h0 htl hx
          go_wp2_with fail
          go_meet
          rw [HTR.out]
          exact ⟨rfl, rfl⟩
        · have g0 : decide ((0 : Int) < (s.n : Int)) = true := by simp; omega
          have g1 : (0 : Int) < (s.n : Int) := by omega
          have g2 : 0 < s.n := by omega
          rw [if_neg h0] at htr
          have HTR := Lib.hid htr; clear htr h0 htl
          go_wp2_with fail
          go_meet
          rw [HTR.out]
          exact ⟨rfl, rfl⟩
      case rest =>
        obtain ⟨rfl, rfl⟩ := hcut
        clear hx htr
        have hput := fun W => rVPut_any s HOK.out hn _ htl W
        have hcode := Va.S.code_length s (s.tried C.1)
        have hcost := Va.cost_le (s := s) (s.tried C.1)
        generalize s.tried C.1 = v at *
        obtain ⟨o, ho⟩ : ∃ o, o = C.2 := ⟨_, rfl⟩
        rw [← ho] at HGOT ⊢
        clear ho
        obtain ⟨x, hxe⟩ : ∃ x, x = s.next v := ⟨_, rfl⟩
        have hput2 : ∀ W, Calls Tryd.prog 27 #[.agg #[.int .i64 s.n, .int .u64 s.v, .int .i64 s.l, .int .i64 s.t], .int .u64 v] W fun e w' => e = .returned (.tuple #[.string (Bit.str (s.code v)), .agg #[.int .i64 x.n, .int .u64 x.v, .int .i64 x.l, .int .i64 x.t]]) ∧ Below W.heap.size W w' := by rw [hxe]; exact hput
        have HPUT := Lib.hid hput2; have HXE := Lib.hid hxe; clear hput hput2 hxe
        have hCs : (Bit.str (s.code v)).size = (s.code v).length := Bit.str_size _
        have hx1 : (Bit.str L).extract 0 (s.code v).length = Bit.str (L.take (s.code v).length) := by rw [Bit.str_extract, List.drop_zero, Nat.sub_zero]
        have hx2 : (Bit.str L).extract (s.code v).length L.length = Bit.str (L.drop (s.code v).length) := by rw [Bit.str_extract, List.take_of_length_le (by rw [List.length_drop]; omega)]
        generalize s.code v = D at *
        have hD : D.length ≤ 78 := by omega
        have HCO := Lib.hid hcode; have HX2 := Lib.hid hx2; clear hcode hcost hx2 htl
        go_wp2_with fail
        refine (HPUT.out _).mono ?_; rintro e w3 ⟨rfl, hb3⟩
        have HB3 := Lib.hid (HB1.out.trans (hb3.mono HB1.out.size)); have HS3 := Lib.hid (HS1.out.later hb3); have HY3 := Lib.hid (HY1.out.later hb3)
        have hz3 : w.heap.size + 1 < w3.heap.size := Nat.lt_of_lt_of_le hz1 hb3.size
        clear hb3 HB1 HS1 HY1 a0 a1 a2 a3 y0 y1 y2 y3 f0 f1 f2 f3 HPUT
        go_upto_region 18 with fail
        have hal : Below w3.heap.size w3 (w3.alloc (.cells #[.int .i64 x.n, .int .u64 x.v, .int .i64 x.l, .int .i64 x.t] 46)) := (Below.refl _ _).alloc (Nat.le_refl _) _
        have HS4 := Lib.hid (HS3.out.later hal); have HY4 := Lib.hid (HY3.out.later hal); have HB4 := Lib.hid (HB3.out.trans (hal.mono HB3.out.size))
        have HX4 : Hid (RVStAt (w3.alloc (.cells #[.int .i64 x.n, .int .u64 x.v, .int .i64 x.l, .int .i64 x.t] 46)) w3.heap.size x) := Lib.hid (RowIs.one _ _)
        have hz4 : w3.heap.size < (w3.alloc (.cells #[.int .i64 x.n, .int .u64 x.v, .int .i64 x.l, .int .i64 x.t] 46)).heap.size := by simp
        clear hal HB3 HS3 HY3
        generalize w3.alloc (.cells #[.int .i64 x.n, .int .u64 x.v, .int .i64 x.l, .int .i64 x.t] 46) = w4 at *
        generalize w3.heap.size = gy at *
        obtain ⟨a0, a1, a2, a3⟩ := HS4.out.cells
        obtain ⟨y0, y1, y2, y3⟩ := HY4.out.cells
        obtain ⟨f0, f1, f2, f3⟩ := HY4.out.free
        obtain ⟨b0, b1, b2, b3⟩ := HX4.out.cells
        have hsetn := (HY4.out.set s).cells
        have hgrn := grown_four w4 (w.heap.size + 1) 0 1 2 3 (.int .i64 s.n) (.int .u64 s.v) (.int .i64 s.l) (.int .i64 s.t)
        have HBN := Lib.hid (HB4.out.grown hgrn HB4.out.size (fun r e => by cases e; omega))
        have HSETN := Lib.hid hsetn
        have hsety := (HY4.out.set x).cells
        have hgry := grown_four w4 (w.heap.size + 1) 0 1 2 3 (.int .i64 x.n) (.int .u64 x.v) (.int .i64 x.l) (.int .i64 x.t)
        have HBY := Lib.hid (HB4.out.grown hgry HB4.out.size (fun r e => by cases e; omega)).drew
        have HSETY := Lib.hid hsety
        clear hsetn hgrn hsety hgry HS4 HY4 HB4 HX4
        cases o with
        | false =>
          have HN : Hid (s.got L = none) := Lib.hid (by rw [HGOT.out, if_neg (fun h => by cases h.1)])
          clear HGOT
          go_wp2_with fail
          refine bodyPost_ret (v := .tuple #[.agg #[.int .i64 s.n, .int .u64 s.v, .int .i64 s.l, .int .i64 s.t], .string (Bit.str L), .bool false]) ?_ rfl ⟨HBN.out, .inr ⟨HN.out, rfl⟩⟩
          obtain ⟨e0, e1', e2, e3⟩ := HSETN.out
          simp [results, go_sem, e0, e1', e2, e3]
        | true =>
          rcases Nat.lt_or_ge L.length D.length with hlc | hlc
          · have e8 : decide ((L.length : Int) < (D.length : Int)) = true := by simp; omega
            have HN : Hid (s.got L = none) := Lib.hid (by rw [HGOT.out, if_neg (fun h => by have := h.2.1; omega)])
            clear HGOT
            go_wp2_with fail
            refine bodyPost_ret (v := .tuple #[.agg #[.int .i64 s.n, .int .u64 s.v, .int .i64 s.l, .int .i64 s.t], .string (Bit.str L), .bool false]) ?_ rfl ⟨HBN.out, .inr ⟨HN.out, rfl⟩⟩
            obtain ⟨e0, e1', e2, e3⟩ := HSETN.out
            simp [results, go_sem, e0, e1', e2, e3]
          · have e8 : decide ((L.length : Int) < (D.length : Int)) = false := by simp; omega
            have g3 : ¬ (L.length < D.length) := by omega
            by_cases htk : L.take D.length = D
            · have HG : Hid (s.got L = some v) := Lib.hid (by rw [HGOT.out, if_pos ⟨rfl, hlc, htk⟩])
              rw [htk] at hx1
              have hx2 := HX2.out
              clear HGOT htk
              go_upto_region 20 with fail
              go_region
              go_wp2_with fail
              refine bodyPost_ret (v := .tuple #[.agg #[.int .i64 x.n, .int .u64 x.v, .int .i64 x.l, .int .i64 x.t], .string (Bit.str (L.drop D.length)), .bool true]) ?_ rfl ⟨HBY.out, .inl ⟨v, HG.out, by rw [← HCO.out, ← HXE.out]; rfl⟩⟩
              obtain ⟨e0, e1', e2, e3⟩ := HSETY.out
              simp [results, go_sem, e0, e1', e2, e3]
            · have e9 : ((Bit.str (L.take D.length)).toList == (Bit.str D).toList) = false := by
                rw [str_beq]; exact decide_eq_false (fun h => htk (Bit.str_inj h))
              have HN : Hid (s.got L = none) := Lib.hid (by rw [HGOT.out, if_neg (fun h => htk h.2.2)])
              clear HGOT htk
              go_wp2_with fail
              refine bodyPost_ret (v := .tuple #[.agg #[.int .i64 s.n, .int .u64 s.v, .int .i64 s.l, .int .i64 s.t], .string (Bit.str L), .bool false]) ?_ rfl ⟨HBN.out, .inr ⟨HN.out, rfl⟩⟩
              obtain ⟨e0, e1', e2, e3⟩ := HSETN.out
              simp [results, go_sem, e0, e1', e2, e3]
end Go.Proofs.YtahdfcflgicpkaaDoor
