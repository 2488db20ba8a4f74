/-
  What Get of the reference comes to.
-/
import Derived.Test.YtopdhcbhhkajpaaDoorStQ
namespace Go.Proofs.YtopdhcbhhkajpaaDoor
open Go.RowKit

/-- what a reading of bits tells -/
def RGets (L : List Bool) (s : St.S) (w : World) (e : Ending) (w' : World) : Prop := Below w.heap.size w w' ∧
  ((∃ t, s.got L = some t ∧ e = .returned (.tuple #[(s.next t).val, .string (Bit.str (L.drop (s.cost t))), .bool true])) ∨ (s.got L = none ∧ e = .returned (.tuple #[s.val, .string (Bit.str L), .bool false])))
theorem RStateAt.cells {W : World} {g : Nat} {s : St.S} (h : RStateAt W g s) : W.cell? ⟨g, 0, none⟩ = some (.int .i64 s.n) ∧ W.cell? ⟨g, 1, none⟩ = some (.int .i64 s.t) ∧ W.cell? ⟨g, 2, none⟩ = some (.int .i64 s.d) :=
  ⟨cell_of_row _ _ 0 _ _ _ h, cell_of_row _ _ 1 _ _ _ h, cell_of_row _ _ 2 _ _ _ h⟩
theorem RStateAt.lt {W : World} {g : Nat} {s : St.S} (h : RStateAt W g s) : g < W.heap.size := (Array.getElem?_eq_some_iff.1 h).1
theorem RStateAt.later {W W2 : World} {g : Nat} {s : St.S} (h : RStateAt W g s) (hb : Below W.heap.size W W2) : RStateAt W2 g s := (hb.block g h.lt).trans h
theorem RStateAt.free {W : World} {g : Nat} {s : St.S} (h : RStateAt W g s) : W.frozen? ⟨g, 0, none⟩ = false ∧ W.frozen? ⟨g, 1, none⟩ = false ∧ W.frozen? ⟨g, 2, none⟩ = false :=
  ⟨frozen_of_row _ _ _ _ _ h, frozen_of_row _ _ _ _ _ h, frozen_of_row _ _ _ _ _ h⟩
theorem below_three {B g : Nat} {w W : World} {x y z : Value} (h : Below B w W) (hs : B ≤ W.heap.size) (hg : B ≤ g) : Below B w (((W.setCell ⟨g, 0, none⟩ x).setCell ⟨g, 1, none⟩ y).setCell ⟨g, 2, none⟩ z) :=
  h.grown (grown_three W g 0 1 2 x y z) hs (fun r e => by cases e; exact hg)
theorem below_two (w : World) (a b : Obj) (x y z : Value) : Below w.heap.size w (((((w.alloc a).alloc b).setCell ⟨w.heap.size + 1, 0, none⟩ x).setCell ⟨w.heap.size + 1, 1, none⟩ y).setCell ⟨w.heap.size + 1, 2, none⟩ z) :=
  below_three (((Below.refl _ _).alloc (Nat.le_refl _) _).alloc (by simp) _) (by simp; omega) (by omega)
theorem below_drew {B : Nat} {w W : World} (h : Below B w W) (hs : B ≤ W.heap.size) : Below B w W.drew := h.grown (grown_drew (grown_refl W none)) hs (fun r e => by cases e)
namespace St
theorem S.got_mark {s : S} (hn : s.n ≠ 0) {L : List Bool} : s.got L = match markOf L with
    | none => none
    | some i => if L.length < marks i + size i then none else
      if cls (told i (Bit.val ((L.drop (marks i)).take (size i)))) = i then some (sw (sw (s.t + s.d) + told i (Bit.val ((L.drop (marks i)).take (size i))))) else none := by
  unfold S.got; rw [if_neg hn]; cases markOf _ <;> rfl
theorem told_zero : told 0 0 = 0 := by
  show sw (sw (0 : Int) - 0) = 0
  rw [sw_in (x := 0) (by omega), Int.sub_zero, sw_in (by omega)]
/-- of bits with another mark it is no beginning -/
theorem code_not {s : S} (hn : s.n ≠ 0) {L : List Bool} {i : Nat} (hm : markOf L = some i) (t : Int) (hc : cls (s.change t) ≠ i) : L.take (s.code t).length ≠ s.code t := by
  intro h
  have h2 : L = s.code t ++ L.drop (s.code t).length := by
    conv => lhs; rw [← List.take_append_drop (s.code t).length L]
    rw [h]
  unfold S.code at h2
  rw [if_neg hn] at h2
  unfold St.code at h2
  rw [List.append_assoc] at h2
  have h3 := markOf_mk (cls (s.change t)) (cls_lt _) (Bit.of (uw (sw (s.change t + plus (cls (s.change t))))).toNat (size (cls (s.change t))) ++ L.drop (if s.n = 0 then Bit.of (uw t).toNat 64 else Bit.of (mark (cls (s.change t))) (marks (cls (s.change t))) ++ Bit.of (uw (sw (s.change t + plus (cls (s.change t))))).toNat (size (cls (s.change t)))).length)
  unfold mkb at h3
  rw [if_neg hn] at h3
  rw [← h2, hm] at h3
  exact hc (Option.some.inj h3).symm
end St
set_option maxRecDepth 100000 in
set_option maxHeartbeats 4000000 in
theorem rGet_mark (L : List Bool) (hL : L.length ≤ 4000) (s : St.S) (hn : s.n ≠ 0) (w : World) :
    Calls Tryd.prog 22 #[.string (Bit.str L), s.val] w (RGets L s w) := by
  have e0 : (s.n == 0) = false := by simp [hn]
  have hs : (Bit.str L).size = L.length := Bit.str_size L
  unfold St.S.val
  go_enter Tryd.func22, Tryd.ntmps22
  go_wp2_with fail
  go_loop [9] (fun i => ∃ (k : Nat), k ≤ 4 ∧ i = .int .i64 k ∧ k ≤ L.length ∧ L = List.replicate k true ++ L.drop k) (fun i => 4 - (intOf i).toNat)
  case atStart => exact ⟨0, by omega, rfl, by omega, rfl⟩
  case round =>
    obtain ⟨k, hk, rfl, hkl, hrun⟩ := hrel
    by_cases h4 : k = 4
    · subst h4
      have HM : Hid (St.markOf L = some 4) := Lib.hid (by rw [hrun]; exact St.run_four _)
      clear hrun
      rcases Nat.lt_or_ge L.length 68 with hsh | hsh
      · have HN : Hid (s.got L = none) := Lib.hid (by rw [St.S.got_mark hn, HM.out]; exact if_pos hsh)
        go_wp2_with fail
        refine (rAt_any L (by omega) 4 64 (by omega) (by omega) 0 _).mono ?_; rintro e wx ⟨rfl, rfl⟩
        rw [if_pos (by omega)]
        go_wp2_with fail
        refine bodyPost_ret (v := .tuple #[.agg #[.int .i64 s.n, .int .i64 s.t, .int .i64 s.d], .string (Bit.str L), .bool false]) (by simp [results, go_sem]) rfl ?_
        exact ⟨((Below.refl _ _).alloc (Nat.le_refl _) _).alloc (by simp) _, .inr ⟨HN.out, rfl⟩⟩
      have HGO : Hid (s.got L = if St.cls (St.told 4 (Bit.val ((L.drop 4).take 64))) = 4 then some (St.sw (St.sw (s.t + s.d) + St.told 4 (Bit.val ((L.drop 4).take 64)))) else none) := Lib.hid (by rw [St.S.got_mark hn, HM.out]; exact if_neg (Nat.not_lt.2 hsh))
      have htold : ∀ v : Nat, wrap64 (wrap64 v - 0) = St.told 4 v := fun v => rfl
      go_wp2_with fail
      refine (rAt_any L (by omega) 4 64 (by omega) (by omega) 0 _).mono ?_; rintro e wx ⟨rfl, rfl⟩
      rw [if_neg (by omega), show St.sw (St.sw (Bit.val ((L.drop 4).take 64) : Nat) - 0) = St.told 4 (Bit.val ((L.drop 4).take 64)) from rfl]
      clear htold
      generalize hv : Bit.val ((L.drop 4).take 64) = v at *
      have hcr := St.told_range 4 v
      generalize St.told 4 v = c at *
      have hback := St.back_change s (c) hcr
      have ht : wrap64 (wrap64 (s.t + s.d) + c) = St.sw (St.sw (s.t + s.d) + c) := rfl
      generalize htt : St.sw (St.sw (s.t + s.d) + c) = t at *
      have HBK := Lib.hid hback; have HCR := Lib.hid hcr; clear hback hcr htt
      have hcode := s.code_length t
      have hcost := s.cost_le t
      have hput := fun W => rPut_any s t W
      rw [show s.val = .agg #[.int .i64 s.n, .int .i64 s.t, .int .i64 s.d] from rfl] at hput
      have HPUT := Lib.hid hput; clear hput
      go_wp2_with fail
      refine (HPUT.out _).mono ?_; rintro e w3 ⟨rfl, hb3⟩
      have hs0 : RStateAt w3 w.heap.size s := (hb3.block _ (by simp; omega)).trans ((RowIs.under _ _ _ _ (by simp)).mpr (RowIs.one _ _))
      have hs1 : RStateAt w3 (w.heap.size + 1) ⟨0, 0, 0⟩ := (hb3.block _ (by simp)).trans (RowIs.two _ _ _)
      have hb4 : Below w.heap.size w w3 := (((Below.refl _ _).alloc (Nat.le_refl _) _).alloc (by simp) _).trans (hb3.mono (by simp; omega))
      have hz3 : w.heap.size + 2 ≤ w3.heap.size := by have := hb3.size; simp at this; omega
      clear hb3
      obtain ⟨n2, d2, hnx⟩ : ∃ n2 d2, s.next t = ⟨n2, t, d2⟩ := by unfold St.S.next; split <;> exact ⟨_, _, rfl⟩
      have HNX := Lib.hid (show (s.next t).val = .agg #[.int .i64 n2, .int .i64 t, .int .i64 d2] by rw [hnx]; rfl)
      rw [HNX.out]
      clear hnx
      go_upto_region 25 with fail
      have hal : Below w3.heap.size w3 (w3.alloc (.cells #[.int .i64 n2, .int .i64 t, .int .i64 d2] 28)) := (Below.refl _ _).alloc (Nat.le_refl _) _
      have HS0 := Lib.hid (hs0.later hal); have HS1 := Lib.hid (hs1.later hal); have HB4 := Lib.hid (hb4.trans (hal.mono (by omega)))
      have HY : Hid (RStateAt (w3.alloc (.cells #[.int .i64 n2, .int .i64 t, .int .i64 d2] 28)) w3.heap.size ⟨n2, t, d2⟩) := Lib.hid (RowIs.one _ _)
      have hz4 : w3.heap.size < (w3.alloc (.cells #[.int .i64 n2, .int .i64 t, .int .i64 d2] 28)).heap.size := by simp
      generalize w3.alloc (.cells #[.int .i64 n2, .int .i64 t, .int .i64 d2] 28) = w4 at *
      generalize w3.heap.size = gy at *
      clear hal hs0 hs1 hb4
      obtain ⟨a0, a1, a2⟩ := HS0.out.cells
      obtain ⟨c0, c1, c2⟩ := HS1.out.cells
      obtain ⟨f0, f1, f2⟩ := HS1.out.free
      obtain ⟨y0, y1, y2⟩ := HY.out.cells
      clear HS0 HS1 HY ht
      have hCs : (Bit.str (s.code t)).size = (s.code t).length := Bit.str_size _
      have hx1 : (Bit.str L).extract 0 (s.code t).length = Bit.str (L.take (s.code t).length) := by rw [Bit.str_extract, List.drop_zero, Nat.sub_zero]
      have hx2 : (Bit.str L).extract (s.code t).length L.length = Bit.str (L.drop (s.code t).length) := by rw [Bit.str_extract, List.take_of_length_le (by rw [List.length_drop]; omega)]
      have hnot := St.code_not hn HM.out t
      rw [HBK.out] at hnot
      generalize hC : s.code t = C at *
      have HC := Lib.hid hC; have HCO := Lib.hid hcode; have HNOT := Lib.hid hnot; have HX2 := Lib.hid hx2; clear hC hcode hnot hx2
      have hCl : C.length ≤ 68 := by have := HCO.out; omega
      by_cases hcc : St.cls (c) = 4
      · have hgot : s.got L = some t := by rw [HGO.out, if_pos hcc]
        obtain ⟨g1, g2, _⟩ := St.S.got_some hgot
        rw [HC.out] at g1
        have htk : L.take C.length = C := by
          conv => lhs; rw [g1]
          exact List.take_left
        rw [htk] at hx1
        rw [← HCO.out] at g2
        have HGT := Lib.hid hgot; clear hgot g1 htk hcc HNOT
        have e8 : decide ((L.length : Int) < (C.length : Int)) = false := by simp; omega
        have g3 : ¬ (L.length < C.length) := by omega
        have hx2 := HX2.out
        go_upto_region 27 with fail
        go_region
        go_wp2_with fail
        refine bodyPost_ret (v := .tuple #[.agg #[.int .i64 n2, .int .i64 t, .int .i64 d2], .string (Bit.str (L.drop C.length)), .bool true]) (by simp [results, go_sem, c0, c1, c2]) rfl ?_
        refine ⟨below_drew (below_three HB4.out (by omega) (by omega)) ?_, .inl ⟨t, HGT.out, by rw [HNX.out, ← HCO.out]⟩⟩
        have := (grown_three w4 (w.heap.size + 1) 0 1 2 (.int .i64 n2) (.int .i64 t) (.int .i64 d2)).size
        omega
      · have HN : Hid (s.got L = none) := Lib.hid (by rw [HGO.out, if_neg hcc])
        have hne := HNOT.out hcc
        rcases Nat.lt_or_ge L.length C.length with hlc | hlc
        · omega
        · have e8 : decide ((L.length : Int) < (C.length : Int)) = false := by simp; omega
          have e9 : ((Bit.str (L.take C.length)).toList == (Bit.str C).toList) = false := by
            rw [str_beq]; exact decide_eq_false (fun h => hne (Bit.str_inj h))
          clear hne hcc
          go_wp2_with fail
          refine bodyPost_ret (v := .tuple #[.agg #[.int .i64 s.n, .int .i64 s.t, .int .i64 s.d], .string (Bit.str L), .bool false]) (by simp [results, go_sem, c0, c1, c2]) rfl ?_
          exact ⟨below_three HB4.out (by omega) (by omega), .inr ⟨HN.out, rfl⟩⟩
    by_cases hend : k = L.length
    · have HM : Hid (St.markOf L = none) := Lib.hid (by
        rw [hrun, List.drop_of_length_le (by omega), List.append_nil]; exact St.run_end k (by omega))
      have HN : Hid (s.got L = none) := Lib.hid (by rw [St.S.got_mark hn, HM.out])
      have e4 : decide ((k : Int) < 4) = true := by simp; omega
      have e5 : decide ((k : Int) < L.length) = false := by simp; omega
      clear hrun e4 e5
      have hend2 : L.length = k := hend.symm
      clear hend
      obtain rfl | rfl | rfl | rfl : k = 0 ∨ k = 1 ∨ k = 2 ∨ k = 3 := by omega
      · go_wp2_with fail
        refine bodyPost_ret (v := .tuple #[.agg #[.int .i64 s.n, .int .i64 s.t, .int .i64 s.d], .string (Bit.str L), .bool false]) (by simp [results, go_sem]) rfl ?_
        exact ⟨((Below.refl _ _).alloc (Nat.le_refl _) _).alloc (by simp) _, .inr ⟨HN.out, rfl⟩⟩
      · go_wp2_with fail
        refine (rAt_any L (by omega) 2 7 (by omega) (by omega) 63 _).mono ?_; rintro e wx ⟨rfl, rfl⟩
        rw [if_pos (by omega)]
        go_wp2_with fail
        refine bodyPost_ret (v := .tuple #[.agg #[.int .i64 s.n, .int .i64 s.t, .int .i64 s.d], .string (Bit.str L), .bool false]) (by simp [results, go_sem]) rfl ?_
        exact ⟨((Below.refl _ _).alloc (Nat.le_refl _) _).alloc (by simp) _, .inr ⟨HN.out, rfl⟩⟩
      · go_wp2_with fail
        refine (rAt_any L (by omega) 3 9 (by omega) (by omega) 255 _).mono ?_; rintro e wx ⟨rfl, rfl⟩
        rw [if_pos (by omega)]
        go_wp2_with fail
        refine bodyPost_ret (v := .tuple #[.agg #[.int .i64 s.n, .int .i64 s.t, .int .i64 s.d], .string (Bit.str L), .bool false]) (by simp [results, go_sem]) rfl ?_
        exact ⟨((Below.refl _ _).alloc (Nat.le_refl _) _).alloc (by simp) _, .inr ⟨HN.out, rfl⟩⟩
      · go_wp2_with fail
        refine (rAt_any L (by omega) 4 12 (by omega) (by omega) 2047 _).mono ?_; rintro e wx ⟨rfl, rfl⟩
        rw [if_pos (by omega)]
        go_wp2_with fail
        refine bodyPost_ret (v := .tuple #[.agg #[.int .i64 s.n, .int .i64 s.t, .int .i64 s.d], .string (Bit.str L), .bool false]) (by simp [results, go_sem]) rfl ?_
        exact ⟨((Below.refl _ _).alloc (Nat.le_refl _) _).alloc (by simp) _, .inr ⟨HN.out, rfl⟩⟩
    have hg : (Bit.str L)[k]'(by rw [hs]; omega) = Bit.chr (L.getD k false) := Bit.str_get L k (by rw [hs]; omega)
    have hdrop : L.drop k = L.getD k false :: L.drop (k + 1) := by
      rw [List.drop_eq_getElem_cons (by omega)]
      congr 1
      simp [List.getD, show k < L.length by omega]
    rw [hdrop] at hrun
    cases hb : L.getD k false with
    | true =>
      rw [hb] at hrun hg
      have e6 : (((Bit.str L)[k]'(by rw [hs]; omega)).toNat == 49) = true := by rw [hg]; rfl
      have HRUN := Lib.hid hrun; clear hrun hdrop hg hb
      have HE6 := Lib.hid e6
      go_wp2_with fail
      go_round
      case rel => exact ⟨k + 1, by omega, by go_num, by omega, by rw [← St.run_next]; exact HRUN.out⟩
      case measure => simp [intOf]; omega
    | false =>
      rw [hb] at hrun hg
      have e6 : (((Bit.str L)[k]'(by rw [hs]; omega)).toNat == 49) = false := by rw [hg]; rfl
      have HM : Hid (St.markOf L = some k) := Lib.hid (by rw [hrun]; exact St.run_false k (by omega) _)
      have hpos : 0 < L.length := by omega
      clear hrun hdrop hg hb
      obtain rfl | rfl | rfl | rfl : k = 0 ∨ k = 1 ∨ k = 2 ∨ k = 3 := by omega
      · have hsh : 0 < L.length := hpos
        have HGO : Hid (s.got L = if St.cls 0 = 0 then some (St.sw (St.sw (s.t + s.d) + 0)) else none) := Lib.hid (by
          rw [St.S.got_mark hn, HM.out]
          show (if L.length < 1 then none else if St.cls (St.told 0 0) = 0 then some (St.sw (St.sw (s.t + s.d) + St.told 0 0)) else none) = _
          rw [if_neg (by omega), St.told_zero])
        have hcr : -9223372036854775808 ≤ (0 : Int) ∧ (0 : Int) < 9223372036854775808 := by omega
        clear hpos
        have e5 : decide (0 < L.length) = true := by simpa using hsh
        have hback := St.back_change s (0) hcr
        have hz0 : St.sw (St.sw (s.t + s.d) + 0) = St.sw (s.t + s.d) := by rw [Int.add_zero, St.sw_sw]
        have HZ0 := Lib.hid hz0; rw [hz0] at hback; clear hz0
        have HGO : Hid (s.got L = if St.cls 0 = 0 then some (St.sw (s.t + s.d)) else none) := Lib.hid (by rw [HGO.out, HZ0.out])
        clear HZ0
        have ht2 : wrap64 (St.sw (s.t + s.d)) = St.sw (s.t + s.d) := St.sw_sw _
        have ht : wrap64 (s.t + s.d) = St.sw (s.t + s.d) := rfl
        generalize htt : St.sw (s.t + s.d) = t at *
        have HBK := Lib.hid hback; have HCR := Lib.hid hcr; clear hback hcr htt
        have hcode := s.code_length t
        have hcost := s.cost_le t
        have hput := fun W => rPut_any s t W
        rw [show s.val = .agg #[.int .i64 s.n, .int .i64 s.t, .int .i64 s.d] from rfl] at hput
        have HPUT := Lib.hid hput; clear hput
        go_wp2_with fail
        refine (HPUT.out _).mono ?_; rintro e w3 ⟨rfl, hb3⟩
        have hs0 : RStateAt w3 w.heap.size s := (hb3.block _ (by simp; omega)).trans ((RowIs.under _ _ _ _ (by simp)).mpr (RowIs.one _ _))
        have hs1 : RStateAt w3 (w.heap.size + 1) ⟨0, 0, 0⟩ := (hb3.block _ (by simp)).trans (RowIs.two _ _ _)
        have hb4 : Below w.heap.size w w3 := (((Below.refl _ _).alloc (Nat.le_refl _) _).alloc (by simp) _).trans (hb3.mono (by simp; omega))
        have hz3 : w.heap.size + 2 ≤ w3.heap.size := by have := hb3.size; simp at this; omega
        clear hb3
        obtain ⟨n2, d2, hnx⟩ : ∃ n2 d2, s.next t = ⟨n2, t, d2⟩ := by unfold St.S.next; split <;> exact ⟨_, _, rfl⟩
        have HNX := Lib.hid (show (s.next t).val = .agg #[.int .i64 n2, .int .i64 t, .int .i64 d2] by rw [hnx]; rfl)
        rw [HNX.out]
        clear hnx
        go_upto_region 25 with fail
        have hal : Below w3.heap.size w3 (w3.alloc (.cells #[.int .i64 n2, .int .i64 t, .int .i64 d2] 28)) := (Below.refl _ _).alloc (Nat.le_refl _) _
        have HS0 := Lib.hid (hs0.later hal); have HS1 := Lib.hid (hs1.later hal); have HB4 := Lib.hid (hb4.trans (hal.mono (by omega)))
        have HY : Hid (RStateAt (w3.alloc (.cells #[.int .i64 n2, .int .i64 t, .int .i64 d2] 28)) w3.heap.size ⟨n2, t, d2⟩) := Lib.hid (RowIs.one _ _)
        have hz4 : w3.heap.size < (w3.alloc (.cells #[.int .i64 n2, .int .i64 t, .int .i64 d2] 28)).heap.size := by simp
        generalize w3.alloc (.cells #[.int .i64 n2, .int .i64 t, .int .i64 d2] 28) = w4 at *
        generalize w3.heap.size = gy at *
        clear hal hs0 hs1 hb4
        obtain ⟨a0, a1, a2⟩ := HS0.out.cells
        obtain ⟨c0, c1, c2⟩ := HS1.out.cells
        obtain ⟨f0, f1, f2⟩ := HS1.out.free
        obtain ⟨y0, y1, y2⟩ := HY.out.cells
        clear HS0 HS1 HY ht
        have hCs : (Bit.str (s.code t)).size = (s.code t).length := Bit.str_size _
        have hx1 : (Bit.str L).extract 0 (s.code t).length = Bit.str (L.take (s.code t).length) := by rw [Bit.str_extract, List.drop_zero, Nat.sub_zero]
        have hx2 : (Bit.str L).extract (s.code t).length L.length = Bit.str (L.drop (s.code t).length) := by rw [Bit.str_extract, List.take_of_length_le (by rw [List.length_drop]; omega)]
        have hnot := St.code_not hn HM.out t
        rw [HBK.out] at hnot
        generalize hC : s.code t = C at *
        have HC := Lib.hid hC; have HCO := Lib.hid hcode; have HNOT := Lib.hid hnot; have HX2 := Lib.hid hx2; clear hC hcode hnot hx2
        have hCl : C.length ≤ 68 := by have := HCO.out; omega
        by_cases hcc : St.cls (0) = 0
        · have hgot : s.got L = some t := by rw [HGO.out, if_pos hcc]
          obtain ⟨g1, g2, _⟩ := St.S.got_some hgot
          rw [HC.out] at g1
          have htk : L.take C.length = C := by
            conv => lhs; rw [g1]
            exact List.take_left
          rw [htk] at hx1
          rw [← HCO.out] at g2
          have HGT := Lib.hid hgot; clear hgot g1 htk hcc HNOT
          have e8 : decide ((L.length : Int) < (C.length : Int)) = false := by simp; omega
          have g3 : ¬ (L.length < C.length) := by omega
          have hx2 := HX2.out
          go_upto_region 27 with fail
          go_region
          go_wp2_with fail
          refine bodyPost_ret (v := .tuple #[.agg #[.int .i64 n2, .int .i64 t, .int .i64 d2], .string (Bit.str (L.drop C.length)), .bool true]) (by simp [results, go_sem, c0, c1, c2]) rfl ?_
          refine ⟨below_drew (below_three HB4.out (by omega) (by omega)) ?_, .inl ⟨t, HGT.out, by rw [HNX.out, ← HCO.out]⟩⟩
          have := (grown_three w4 (w.heap.size + 1) 0 1 2 (.int .i64 n2) (.int .i64 t) (.int .i64 d2)).size
          omega
        · have HN : Hid (s.got L = none) := Lib.hid (by rw [HGO.out, if_neg hcc])
          have hne := HNOT.out hcc
          rcases Nat.lt_or_ge L.length C.length with hlc | hlc
          · have e8 : decide ((L.length : Int) < (C.length : Int)) = true := by simp; omega
            clear hne hcc
            go_wp2_with fail
            refine bodyPost_ret (v := .tuple #[.agg #[.int .i64 s.n, .int .i64 s.t, .int .i64 s.d], .string (Bit.str L), .bool false]) (by simp [results, go_sem, c0, c1, c2]) rfl ?_
            exact ⟨below_three HB4.out (by omega) (by omega), .inr ⟨HN.out, rfl⟩⟩
          · have e8 : decide ((L.length : Int) < (C.length : Int)) = false := by simp; omega
            have e9 : ((Bit.str (L.take C.length)).toList == (Bit.str C).toList) = false := by
              rw [str_beq]; exact decide_eq_false (fun h => hne (Bit.str_inj h))
            clear hne hcc
            go_wp2_with fail
            refine bodyPost_ret (v := .tuple #[.agg #[.int .i64 s.n, .int .i64 s.t, .int .i64 s.d], .string (Bit.str L), .bool false]) (by simp [results, go_sem, c0, c1, c2]) rfl ?_
            exact ⟨below_three HB4.out (by omega) (by omega), .inr ⟨HN.out, rfl⟩⟩
      · rcases Nat.lt_or_ge L.length 9 with hsh | hsh
        · have HN : Hid (s.got L = none) := Lib.hid (by rw [St.S.got_mark hn, HM.out]; exact if_pos hsh)
          go_wp2_with fail
          refine (rAt_any L (by omega) 2 7 (by omega) (by omega) 63 _).mono ?_; rintro e wx ⟨rfl, rfl⟩
          rw [if_pos (by omega)]
          go_wp2_with fail
          refine bodyPost_ret (v := .tuple #[.agg #[.int .i64 s.n, .int .i64 s.t, .int .i64 s.d], .string (Bit.str L), .bool false]) (by simp [results, go_sem]) rfl ?_
          exact ⟨((Below.refl _ _).alloc (Nat.le_refl _) _).alloc (by simp) _, .inr ⟨HN.out, rfl⟩⟩
        have HGO : Hid (s.got L = if St.cls (St.told 1 (Bit.val ((L.drop 2).take 7))) = 1 then some (St.sw (St.sw (s.t + s.d) + St.told 1 (Bit.val ((L.drop 2).take 7)))) else none) := Lib.hid (by rw [St.S.got_mark hn, HM.out]; exact if_neg (Nat.not_lt.2 hsh))
        have htold : ∀ v : Nat, wrap64 (wrap64 v - 63) = St.told 1 v := fun v => rfl
        go_wp2_with fail
        refine (rAt_any L (by omega) 2 7 (by omega) (by omega) 63 _).mono ?_; rintro e wx ⟨rfl, rfl⟩
        rw [if_neg (by omega), show St.sw (St.sw (Bit.val ((L.drop 2).take 7) : Nat) - 63) = St.told 1 (Bit.val ((L.drop 2).take 7)) from rfl]
        clear htold
        generalize hv : Bit.val ((L.drop 2).take 7) = v at *
        have hcr := St.told_range 1 v
        generalize St.told 1 v = c at *
        have hback := St.back_change s (c) hcr
        have ht : wrap64 (wrap64 (s.t + s.d) + c) = St.sw (St.sw (s.t + s.d) + c) := rfl
        generalize htt : St.sw (St.sw (s.t + s.d) + c) = t at *
        have HBK := Lib.hid hback; have HCR := Lib.hid hcr; clear hback hcr htt
        have hcode := s.code_length t
        have hcost := s.cost_le t
        have hput := fun W => rPut_any s t W
        rw [show s.val = .agg #[.int .i64 s.n, .int .i64 s.t, .int .i64 s.d] from rfl] at hput
        have HPUT := Lib.hid hput; clear hput
        go_wp2_with fail
        refine (HPUT.out _).mono ?_; rintro e w3 ⟨rfl, hb3⟩
        have hs0 : RStateAt w3 w.heap.size s := (hb3.block _ (by simp; omega)).trans ((RowIs.under _ _ _ _ (by simp)).mpr (RowIs.one _ _))
        have hs1 : RStateAt w3 (w.heap.size + 1) ⟨0, 0, 0⟩ := (hb3.block _ (by simp)).trans (RowIs.two _ _ _)
        have hb4 : Below w.heap.size w w3 := (((Below.refl _ _).alloc (Nat.le_refl _) _).alloc (by simp) _).trans (hb3.mono (by simp; omega))
        have hz3 : w.heap.size + 2 ≤ w3.heap.size := by have := hb3.size; simp at this; omega
        clear hb3
        obtain ⟨n2, d2, hnx⟩ : ∃ n2 d2, s.next t = ⟨n2, t, d2⟩ := by unfold St.S.next; split <;> exact ⟨_, _, rfl⟩
        have HNX := Lib.hid (show (s.next t).val = .agg #[.int .i64 n2, .int .i64 t, .int .i64 d2] by rw [hnx]; rfl)
        rw [HNX.out]
        clear hnx
        go_upto_region 25 with fail
        have hal : Below w3.heap.size w3 (w3.alloc (.cells #[.int .i64 n2, .int .i64 t, .int .i64 d2] 28)) := (Below.refl _ _).alloc (Nat.le_refl _) _
        have HS0 := Lib.hid (hs0.later hal); have HS1 := Lib.hid (hs1.later hal); have HB4 := Lib.hid (hb4.trans (hal.mono (by omega)))
        have HY : Hid (RStateAt (w3.alloc (.cells #[.int .i64 n2, .int .i64 t, .int .i64 d2] 28)) w3.heap.size ⟨n2, t, d2⟩) := Lib.hid (RowIs.one _ _)
        have hz4 : w3.heap.size < (w3.alloc (.cells #[.int .i64 n2, .int .i64 t, .int .i64 d2] 28)).heap.size := by simp
        generalize w3.alloc (.cells #[.int .i64 n2, .int .i64 t, .int .i64 d2] 28) = w4 at *
        generalize w3.heap.size = gy at *
        clear hal hs0 hs1 hb4
        obtain ⟨a0, a1, a2⟩ := HS0.out.cells
        obtain ⟨c0, c1, c2⟩ := HS1.out.cells
        obtain ⟨f0, f1, f2⟩ := HS1.out.free
        obtain ⟨y0, y1, y2⟩ := HY.out.cells
        clear HS0 HS1 HY ht
        have hCs : (Bit.str (s.code t)).size = (s.code t).length := Bit.str_size _
        have hx1 : (Bit.str L).extract 0 (s.code t).length = Bit.str (L.take (s.code t).length) := by rw [Bit.str_extract, List.drop_zero, Nat.sub_zero]
        have hx2 : (Bit.str L).extract (s.code t).length L.length = Bit.str (L.drop (s.code t).length) := by rw [Bit.str_extract, List.take_of_length_le (by rw [List.length_drop]; omega)]
        have hnot := St.code_not hn HM.out t
        rw [HBK.out] at hnot
        generalize hC : s.code t = C at *
        have HC := Lib.hid hC; have HCO := Lib.hid hcode; have HNOT := Lib.hid hnot; have HX2 := Lib.hid hx2; clear hC hcode hnot hx2
        have hCl : C.length ≤ 68 := by have := HCO.out; omega
        by_cases hcc : St.cls (c) = 1
        · have hgot : s.got L = some t := by rw [HGO.out, if_pos hcc]
          obtain ⟨g1, g2, _⟩ := St.S.got_some hgot
          rw [HC.out] at g1
          have htk : L.take C.length = C := by
            conv => lhs; rw [g1]
            exact List.take_left
          rw [htk] at hx1
          rw [← HCO.out] at g2
          have HGT := Lib.hid hgot; clear hgot g1 htk hcc HNOT
          have e8 : decide ((L.length : Int) < (C.length : Int)) = false := by simp; omega
          have g3 : ¬ (L.length < C.length) := by omega
          have hx2 := HX2.out
          go_upto_region 27 with fail
          go_region
          go_wp2_with fail
          refine bodyPost_ret (v := .tuple #[.agg #[.int .i64 n2, .int .i64 t, .int .i64 d2], .string (Bit.str (L.drop C.length)), .bool true]) (by simp [results, go_sem, c0, c1, c2]) rfl ?_
          refine ⟨below_drew (below_three HB4.out (by omega) (by omega)) ?_, .inl ⟨t, HGT.out, by rw [HNX.out, ← HCO.out]⟩⟩
          have := (grown_three w4 (w.heap.size + 1) 0 1 2 (.int .i64 n2) (.int .i64 t) (.int .i64 d2)).size
          omega
        · have HN : Hid (s.got L = none) := Lib.hid (by rw [HGO.out, if_neg hcc])
          have hne := HNOT.out hcc
          rcases Nat.lt_or_ge L.length C.length with hlc | hlc
          · have e8 : decide ((L.length : Int) < (C.length : Int)) = true := by simp; omega
            clear hne hcc
            go_wp2_with fail
            refine bodyPost_ret (v := .tuple #[.agg #[.int .i64 s.n, .int .i64 s.t, .int .i64 s.d], .string (Bit.str L), .bool false]) (by simp [results, go_sem, c0, c1, c2]) rfl ?_
            exact ⟨below_three HB4.out (by omega) (by omega), .inr ⟨HN.out, rfl⟩⟩
          · have e8 : decide ((L.length : Int) < (C.length : Int)) = false := by simp; omega
            have e9 : ((Bit.str (L.take C.length)).toList == (Bit.str C).toList) = false := by
              rw [str_beq]; exact decide_eq_false (fun h => hne (Bit.str_inj h))
            clear hne hcc
            go_wp2_with fail
            refine bodyPost_ret (v := .tuple #[.agg #[.int .i64 s.n, .int .i64 s.t, .int .i64 s.d], .string (Bit.str L), .bool false]) (by simp [results, go_sem, c0, c1, c2]) rfl ?_
            exact ⟨below_three HB4.out (by omega) (by omega), .inr ⟨HN.out, rfl⟩⟩
      · rcases Nat.lt_or_ge L.length 12 with hsh | hsh
        · have HN : Hid (s.got L = none) := Lib.hid (by rw [St.S.got_mark hn, HM.out]; exact if_pos hsh)
          go_wp2_with fail
          refine (rAt_any L (by omega) 3 9 (by omega) (by omega) 255 _).mono ?_; rintro e wx ⟨rfl, rfl⟩
          rw [if_pos (by omega)]
          go_wp2_with fail
          refine bodyPost_ret (v := .tuple #[.agg #[.int .i64 s.n, .int .i64 s.t, .int .i64 s.d], .string (Bit.str L), .bool false]) (by simp [results, go_sem]) rfl ?_
          exact ⟨((Below.refl _ _).alloc (Nat.le_refl _) _).alloc (by simp) _, .inr ⟨HN.out, rfl⟩⟩
        have HGO : Hid (s.got L = if St.cls (St.told 2 (Bit.val ((L.drop 3).take 9))) = 2 then some (St.sw (St.sw (s.t + s.d) + St.told 2 (Bit.val ((L.drop 3).take 9)))) else none) := Lib.hid (by rw [St.S.got_mark hn, HM.out]; exact if_neg (Nat.not_lt.2 hsh))
        have htold : ∀ v : Nat, wrap64 (wrap64 v - 255) = St.told 2 v := fun v => rfl
        go_wp2_with fail
        refine (rAt_any L (by omega) 3 9 (by omega) (by omega) 255 _).mono ?_; rintro e wx ⟨rfl, rfl⟩
        rw [if_neg (by omega), show St.sw (St.sw (Bit.val ((L.drop 3).take 9) : Nat) - 255) = St.told 2 (Bit.val ((L.drop 3).take 9)) from rfl]
        clear htold
        generalize hv : Bit.val ((L.drop 3).take 9) = v at *
        have hcr := St.told_range 2 v
        generalize St.told 2 v = c at *
        have hback := St.back_change s (c) hcr
        have ht : wrap64 (wrap64 (s.t + s.d) + c) = St.sw (St.sw (s.t + s.d) + c) := rfl
        generalize htt : St.sw (St.sw (s.t + s.d) + c) = t at *
        have HBK := Lib.hid hback; have HCR := Lib.hid hcr; clear hback hcr htt
        have hcode := s.code_length t
        have hcost := s.cost_le t
        have hput := fun W => rPut_any s t W
        rw [show s.val = .agg #[.int .i64 s.n, .int .i64 s.t, .int .i64 s.d] from rfl] at hput
        have HPUT := Lib.hid hput; clear hput
        go_wp2_with fail
        refine (HPUT.out _).mono ?_; rintro e w3 ⟨rfl, hb3⟩
        have hs0 : RStateAt w3 w.heap.size s := (hb3.block _ (by simp; omega)).trans ((RowIs.under _ _ _ _ (by simp)).mpr (RowIs.one _ _))
        have hs1 : RStateAt w3 (w.heap.size + 1) ⟨0, 0, 0⟩ := (hb3.block _ (by simp)).trans (RowIs.two _ _ _)
        have hb4 : Below w.heap.size w w3 := (((Below.refl _ _).alloc (Nat.le_refl _) _).alloc (by simp) _).trans (hb3.mono (by simp; omega))
        have hz3 : w.heap.size + 2 ≤ w3.heap.size := by have := hb3.size; simp at this; omega
        clear hb3
        obtain ⟨n2, d2, hnx⟩ : ∃ n2 d2, s.next t = ⟨n2, t, d2⟩ := by unfold St.S.next; split <;> exact ⟨_, _, rfl⟩
        have HNX := Lib.hid (show (s.next t).val = .agg #[.int .i64 n2, .int .i64 t, .int .i64 d2] by rw [hnx]; rfl)
        rw [HNX.out]
        clear hnx
        go_upto_region 25 with fail
        have hal : Below w3.heap.size w3 (w3.alloc (.cells #[.int .i64 n2, .int .i64 t, .int .i64 d2] 28)) := (Below.refl _ _).alloc (Nat.le_refl _) _
        have HS0 := Lib.hid (hs0.later hal); have HS1 := Lib.hid (hs1.later hal); have HB4 := Lib.hid (hb4.trans (hal.mono (by omega)))
        have HY : Hid (RStateAt (w3.alloc (.cells #[.int .i64 n2, .int .i64 t, .int .i64 d2] 28)) w3.heap.size ⟨n2, t, d2⟩) := Lib.hid (RowIs.one _ _)
        have hz4 : w3.heap.size < (w3.alloc (.cells #[.int .i64 n2, .int .i64 t, .int .i64 d2] 28)).heap.size := by simp
        generalize w3.alloc (.cells #[.int .i64 n2, .int .i64 t, .int .i64 d2] 28) = w4 at *
        generalize w3.heap.size = gy at *
        clear hal hs0 hs1 hb4
        obtain ⟨a0, a1, a2⟩ := HS0.out.cells
        obtain ⟨c0, c1, c2⟩ := HS1.out.cells
        obtain ⟨f0, f1, f2⟩ := HS1.out.free
        obtain ⟨y0, y1, y2⟩ := HY.out.cells
        clear HS0 HS1 HY ht
        have hCs : (Bit.str (s.code t)).size = (s.code t).length := Bit.str_size _
        have hx1 : (Bit.str L).extract 0 (s.code t).length = Bit.str (L.take (s.code t).length) := by rw [Bit.str_extract, List.drop_zero, Nat.sub_zero]
        have hx2 : (Bit.str L).extract (s.code t).length L.length = Bit.str (L.drop (s.code t).length) := by rw [Bit.str_extract, List.take_of_length_le (by rw [List.length_drop]; omega)]
        have hnot := St.code_not hn HM.out t
        rw [HBK.out] at hnot
        generalize hC : s.code t = C at *
        have HC := Lib.hid hC; have HCO := Lib.hid hcode; have HNOT := Lib.hid hnot; have HX2 := Lib.hid hx2; clear hC hcode hnot hx2
        have hCl : C.length ≤ 68 := by have := HCO.out; omega
        by_cases hcc : St.cls (c) = 2
        · have hgot : s.got L = some t := by rw [HGO.out, if_pos hcc]
          obtain ⟨g1, g2, _⟩ := St.S.got_some hgot
          rw [HC.out] at g1
          have htk : L.take C.length = C := by
            conv => lhs; rw [g1]
            exact List.take_left
          rw [htk] at hx1
          rw [← HCO.out] at g2
          have HGT := Lib.hid hgot; clear hgot g1 htk hcc HNOT
          have e8 : decide ((L.length : Int) < (C.length : Int)) = false := by simp; omega
          have g3 : ¬ (L.length < C.length) := by omega
          have hx2 := HX2.out
          go_upto_region 27 with fail
          go_region
          go_wp2_with fail
          refine bodyPost_ret (v := .tuple #[.agg #[.int .i64 n2, .int .i64 t, .int .i64 d2], .string (Bit.str (L.drop C.length)), .bool true]) (by simp [results, go_sem, c0, c1, c2]) rfl ?_
          refine ⟨below_drew (below_three HB4.out (by omega) (by omega)) ?_, .inl ⟨t, HGT.out, by rw [HNX.out, ← HCO.out]⟩⟩
          have := (grown_three w4 (w.heap.size + 1) 0 1 2 (.int .i64 n2) (.int .i64 t) (.int .i64 d2)).size
          omega
        · have HN : Hid (s.got L = none) := Lib.hid (by rw [HGO.out, if_neg hcc])
          have hne := HNOT.out hcc
          rcases Nat.lt_or_ge L.length C.length with hlc | hlc
          · have e8 : decide ((L.length : Int) < (C.length : Int)) = true := by simp; omega
            clear hne hcc
            go_wp2_with fail
            refine bodyPost_ret (v := .tuple #[.agg #[.int .i64 s.n, .int .i64 s.t, .int .i64 s.d], .string (Bit.str L), .bool false]) (by simp [results, go_sem, c0, c1, c2]) rfl ?_
            exact ⟨below_three HB4.out (by omega) (by omega), .inr ⟨HN.out, rfl⟩⟩
          · have e8 : decide ((L.length : Int) < (C.length : Int)) = false := by simp; omega
            have e9 : ((Bit.str (L.take C.length)).toList == (Bit.str C).toList) = false := by
              rw [str_beq]; exact decide_eq_false (fun h => hne (Bit.str_inj h))
            clear hne hcc
            go_wp2_with fail
            refine bodyPost_ret (v := .tuple #[.agg #[.int .i64 s.n, .int .i64 s.t, .int .i64 s.d], .string (Bit.str L), .bool false]) (by simp [results, go_sem, c0, c1, c2]) rfl ?_
            exact ⟨below_three HB4.out (by omega) (by omega), .inr ⟨HN.out, rfl⟩⟩
      · rcases Nat.lt_or_ge L.length 16 with hsh | hsh
        · have HN : Hid (s.got L = none) := Lib.hid (by rw [St.S.got_mark hn, HM.out]; exact if_pos hsh)
          go_wp2_with fail
          refine (rAt_any L (by omega) 4 12 (by omega) (by omega) 2047 _).mono ?_; rintro e wx ⟨rfl, rfl⟩
          rw [if_pos (by omega)]
          go_wp2_with fail
          refine bodyPost_ret (v := .tuple #[.agg #[.int .i64 s.n, .int .i64 s.t, .int .i64 s.d], .string (Bit.str L), .bool false]) (by simp [results, go_sem]) rfl ?_
          exact ⟨((Below.refl _ _).alloc (Nat.le_refl _) _).alloc (by simp) _, .inr ⟨HN.out, rfl⟩⟩
        have HGO : Hid (s.got L = if St.cls (St.told 3 (Bit.val ((L.drop 4).take 12))) = 3 then some (St.sw (St.sw (s.t + s.d) + St.told 3 (Bit.val ((L.drop 4).take 12)))) else none) := Lib.hid (by rw [St.S.got_mark hn, HM.out]; exact if_neg (Nat.not_lt.2 hsh))
        have htold : ∀ v : Nat, wrap64 (wrap64 v - 2047) = St.told 3 v := fun v => rfl
        go_wp2_with fail
        refine (rAt_any L (by omega) 4 12 (by omega) (by omega) 2047 _).mono ?_; rintro e wx ⟨rfl, rfl⟩
        rw [if_neg (by omega), show St.sw (St.sw (Bit.val ((L.drop 4).take 12) : Nat) - 2047) = St.told 3 (Bit.val ((L.drop 4).take 12)) from rfl]
        clear htold
        generalize hv : Bit.val ((L.drop 4).take 12) = v at *
        have hcr := St.told_range 3 v
        generalize St.told 3 v = c at *
        have hback := St.back_change s (c) hcr
        have ht : wrap64 (wrap64 (s.t + s.d) + c) = St.sw (St.sw (s.t + s.d) + c) := rfl
        generalize htt : St.sw (St.sw (s.t + s.d) + c) = t at *
        have HBK := Lib.hid hback; have HCR := Lib.hid hcr; clear hback hcr htt
        have hcode := s.code_length t
        have hcost := s.cost_le t
        have hput := fun W => rPut_any s t W
        rw [show s.val = .agg #[.int .i64 s.n, .int .i64 s.t, .int .i64 s.d] from rfl] at hput
        have HPUT := Lib.hid hput; clear hput
        go_wp2_with fail
        refine (HPUT.out _).mono ?_; rintro e w3 ⟨rfl, hb3⟩
        have hs0 : RStateAt w3 w.heap.size s := (hb3.block _ (by simp; omega)).trans ((RowIs.under _ _ _ _ (by simp)).mpr (RowIs.one _ _))
        have hs1 : RStateAt w3 (w.heap.size + 1) ⟨0, 0, 0⟩ := (hb3.block _ (by simp)).trans (RowIs.two _ _ _)
        have hb4 : Below w.heap.size w w3 := (((Below.refl _ _).alloc (Nat.le_refl _) _).alloc (by simp) _).trans (hb3.mono (by simp; omega))
        have hz3 : w.heap.size + 2 ≤ w3.heap.size := by have := hb3.size; simp at this; omega
        clear hb3
        obtain ⟨n2, d2, hnx⟩ : ∃ n2 d2, s.next t = ⟨n2, t, d2⟩ := by unfold St.S.next; split <;> exact ⟨_, _, rfl⟩
        have HNX := Lib.hid (show (s.next t).val = .agg #[.int .i64 n2, .int .i64 t, .int .i64 d2] by rw [hnx]; rfl)
        rw [HNX.out]
        clear hnx
        go_upto_region 25 with fail
        have hal : Below w3.heap.size w3 (w3.alloc (.cells #[.int .i64 n2, .int .i64 t, .int .i64 d2] 28)) := (Below.refl _ _).alloc (Nat.le_refl _) _
        have HS0 := Lib.hid (hs0.later hal); have HS1 := Lib.hid (hs1.later hal); have HB4 := Lib.hid (hb4.trans (hal.mono (by omega)))
        have HY : Hid (RStateAt (w3.alloc (.cells #[.int .i64 n2, .int .i64 t, .int .i64 d2] 28)) w3.heap.size ⟨n2, t, d2⟩) := Lib.hid (RowIs.one _ _)
        have hz4 : w3.heap.size < (w3.alloc (.cells #[.int .i64 n2, .int .i64 t, .int .i64 d2] 28)).heap.size := by simp
        generalize w3.alloc (.cells #[.int .i64 n2, .int .i64 t, .int .i64 d2] 28) = w4 at *
        generalize w3.heap.size = gy at *
        clear hal hs0 hs1 hb4
        obtain ⟨a0, a1, a2⟩ := HS0.out.cells
        obtain ⟨c0, c1, c2⟩ := HS1.out.cells
        obtain ⟨f0, f1, f2⟩ := HS1.out.free
        obtain ⟨y0, y1, y2⟩ := HY.out.cells
        clear HS0 HS1 HY ht
        have hCs : (Bit.str (s.code t)).size = (s.code t).length := Bit.str_size _
        have hx1 : (Bit.str L).extract 0 (s.code t).length = Bit.str (L.take (s.code t).length) := by rw [Bit.str_extract, List.drop_zero, Nat.sub_zero]
        have hx2 : (Bit.str L).extract (s.code t).length L.length = Bit.str (L.drop (s.code t).length) := by rw [Bit.str_extract, List.take_of_length_le (by rw [List.length_drop]; omega)]
        have hnot := St.code_not hn HM.out t
        rw [HBK.out] at hnot
        generalize hC : s.code t = C at *
        have HC := Lib.hid hC; have HCO := Lib.hid hcode; have HNOT := Lib.hid hnot; have HX2 := Lib.hid hx2; clear hC hcode hnot hx2
        have hCl : C.length ≤ 68 := by have := HCO.out; omega
        by_cases hcc : St.cls (c) = 3
        · have hgot : s.got L = some t := by rw [HGO.out, if_pos hcc]
          obtain ⟨g1, g2, _⟩ := St.S.got_some hgot
          rw [HC.out] at g1
          have htk : L.take C.length = C := by
            conv => lhs; rw [g1]
            exact List.take_left
          rw [htk] at hx1
          rw [← HCO.out] at g2
          have HGT := Lib.hid hgot; clear hgot g1 htk hcc HNOT
          have e8 : decide ((L.length : Int) < (C.length : Int)) = false := by simp; omega
          have g3 : ¬ (L.length < C.length) := by omega
          have hx2 := HX2.out
          go_upto_region 27 with fail
          go_region
          go_wp2_with fail
          refine bodyPost_ret (v := .tuple #[.agg #[.int .i64 n2, .int .i64 t, .int .i64 d2], .string (Bit.str (L.drop C.length)), .bool true]) (by simp [results, go_sem, c0, c1, c2]) rfl ?_
          refine ⟨below_drew (below_three HB4.out (by omega) (by omega)) ?_, .inl ⟨t, HGT.out, by rw [HNX.out, ← HCO.out]⟩⟩
          have := (grown_three w4 (w.heap.size + 1) 0 1 2 (.int .i64 n2) (.int .i64 t) (.int .i64 d2)).size
          omega
        · have HN : Hid (s.got L = none) := Lib.hid (by rw [HGO.out, if_neg hcc])
          have hne := HNOT.out hcc
          rcases Nat.lt_or_ge L.length C.length with hlc | hlc
          · have e8 : decide ((L.length : Int) < (C.length : Int)) = true := by simp; omega
            clear hne hcc
            go_wp2_with fail
            refine bodyPost_ret (v := .tuple #[.agg #[.int .i64 s.n, .int .i64 s.t, .int .i64 s.d], .string (Bit.str L), .bool false]) (by simp [results, go_sem, c0, c1, c2]) rfl ?_
            exact ⟨below_three HB4.out (by omega) (by omega), .inr ⟨HN.out, rfl⟩⟩
          · have e8 : decide ((L.length : Int) < (C.length : Int)) = false := by simp; omega
            have e9 : ((Bit.str (L.take C.length)).toList == (Bit.str C).toList) = false := by
              rw [str_beq]; exact decide_eq_false (fun h => hne (Bit.str_inj h))
            clear hne hcc
            go_wp2_with fail
            refine bodyPost_ret (v := .tuple #[.agg #[.int .i64 s.n, .int .i64 s.t, .int .i64 s.d], .string (Bit.str L), .bool false]) (by simp [results, go_sem, c0, c1, c2]) rfl ?_
            exact ⟨below_three HB4.out (by omega) (by omega), .inr ⟨HN.out, rfl⟩⟩
set_option maxRecDepth 100000 in
set_option maxHeartbeats 600000 in
theorem rGet_zero (L : List Bool) (hL : L.length ≤ 4000) (s : St.S) (hn : s.n = 0) (w : World) :
    Calls Tryd.prog 22 #[.string (Bit.str L), s.val] w (RGets L s w) := by
  have e0 : (s.n == 0) = true := by simp [hn]
  have hs : (Bit.str L).size = L.length := Bit.str_size L
  have hgot : s.got L = if L.length < 64 then none else some (St.sw (Bit.val (L.take 64))) := by unfold St.S.got; rw [if_pos hn]
  have hcost : ∀ t, s.cost t = 64 := fun t => by unfold St.S.cost; rw [if_pos hn]
  have hnext : ∀ t, (s.next t).val = .agg #[.int .i64 1, .int .i64 t, .int .i64 0] := fun t => by unfold St.S.next; rw [if_pos hn]; rfl
  have HG := Lib.hid hgot; have HC := Lib.hid hcost; have HX := Lib.hid hnext; clear hgot hcost hnext hn
  unfold St.S.val
  go_enter Tryd.func22, Tryd.ntmps22
  go_wp2_with fail
  refine (rAt_any L (by omega) 0 64 (by omega) (by omega) 0 _).mono ?_; rintro e wx ⟨rfl, rfl⟩
  rcases Nat.lt_or_ge L.length 64 with hsh | hsh
  · rw [if_pos (by omega)]
    go_wp2_with fail
    refine bodyPost_ret (v := .tuple #[.agg #[.int .i64 s.n, .int .i64 s.t, .int .i64 s.d], .string (Bit.str L), .bool false]) (by simp [results, go_sem]) rfl ?_
    exact ⟨((Below.refl _ _).alloc (Nat.le_refl _) _).alloc (by simp) _, .inr ⟨by rw [HG.out, if_pos hsh], rfl⟩⟩
  · rw [if_neg (by omega), List.drop_zero]
    have ht : St.sw (St.sw (Bit.val (L.take 64) : Nat) - 0) = St.sw (Bit.val (L.take 64) : Nat) := by rw [Int.sub_zero, St.sw_sw]
    rw [ht]
    have HG2 : Hid (s.got L = some (St.sw (Bit.val (L.take 64) : Nat))) := Lib.hid (by rw [HG.out, if_neg (by omega)])
    clear ht
    generalize St.sw (Bit.val (L.take 64) : Nat) = t at *
    have hx2 : (Bit.str L).extract 64 L.length = Bit.str (L.drop 64) := by rw [Bit.str_extract, List.take_of_length_le (by rw [List.length_drop]; omega)]
    go_upto_region 5 with fail
    go_region
    go_wp2_with fail
    refine bodyPost_ret (v := .tuple #[.agg #[.int .i64 1, .int .i64 t, .int .i64 0], .string (Bit.str (L.drop 64)), .bool true]) (by simp [results, go_sem]) rfl ?_
    refine ⟨?_, .inl ⟨t, HG2.out, by rw [HX.out, HC.out]⟩⟩
    exact (((Below.refl _ _).alloc (Nat.le_refl _) _).alloc (by simp) _).grown ⟨rfl, rfl, rfl, Nat.le_refl _, fun _ _ _ => rfl⟩ (row := none) (by simp; omega) (fun r e => by cases e)
theorem rGet_any (L : List Bool) (hL : L.length ≤ 4000) (s : St.S) (w : World) :
    Calls Tryd.prog 22 #[.string (Bit.str L), s.val] w (RGets L s w) := by
  by_cases hn : s.n = 0
  · exact rGet_zero L hL s hn w
  · exact rGet_mark L hL s hn w
end Go.Proofs.YtopdhcbhhkajpaaDoor
