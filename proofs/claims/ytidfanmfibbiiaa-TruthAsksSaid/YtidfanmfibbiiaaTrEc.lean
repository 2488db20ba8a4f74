import Derived.Test.YtidfanmfibbiiaaTrEa
/-
  What apply comes to.
-/
namespace Go.Proofs.Ytidfanmfibbiiaa
open Go.RowKit
namespace Tr
variable {α μ : Type} [DecidableEq α] (p : Par α μ)
theorem apply_zero (S : Stt α) (r : Rec α) (h : r.kind = 0) : apply p S r = ((put p S r.l r.t r.v 3).1, (put p S r.l r.t r.v 3).2.1) := by
  unfold apply; rw [if_pos h]
theorem apply_none (S : Stt α) (r : Rec α) (h : r.kind = 1) (hf : find S.ser r.l = none) : apply p S r = (S, false) := by
  unfold apply; rw [if_neg (by omega), if_pos h, hf]
theorem apply_some (S : Stt α) (r : Rec α) (h : r.kind = 1) {i : Nat} {x : Ser α} (hf : find S.ser r.l = some i) (hx : S.ser[i]? = some x) : apply p S r = (⟨S.ser.set i (cutS r.t r.hi x), S.floor⟩, decide (0 < lost r.t r.hi x)) := by
  unfold apply; rw [if_neg (by omega), if_pos h, hf]
  simp only [hx]
theorem apply_two (S : Stt α) (r : Rec α) (h : r.kind = 2) : apply p S r = if isT r.t = true ∧ S.floor < r.t then (raiseS S r.t, true) else (S, false) := by
  unfold apply; rw [if_neg (by omega), if_neg (by omega), if_pos h]
theorem apply_other (S : Stt α) (r : Rec α) (h : r.kind ≠ 0 ∧ r.kind ≠ 1 ∧ r.kind ≠ 2) : apply p S r = (S, false) := by
  unfold apply; rw [if_neg h.1, if_neg h.2.1, if_neg h.2.2]
theorem put_len (S : Stt α) (l : α) (t v gen : Int) (M : Nat) (h : ∀ x ∈ S.ser, x.s.length ≤ M) : ∀ x ∈ (put p S l t v gen).1.ser, x.s.length ≤ M + 1 := by
  cases hd : (put p S l t v gen).2.1
  · rw [put_no hd]
    exact fun x hx => Nat.le_succ_of_le (h x hx)
  · obtain ⟨-, -, -, -, -, ⟨-, -, e⟩ | ⟨i, y, -, hy, -, -, e⟩⟩ := put_did hd
    · rw [e]
      intro x hx
      rcases ins_mem.1 hx with rfl | hx
      · show 1 ≤ M + 1; omega
      · exact Nat.le_succ_of_le (h x hx)
    · rw [e]
      intro x hx
      rcases List.mem_or_eq_of_mem_set hx with hx | rfl
      · exact Nat.le_succ_of_le (h x hx)
      · have := h y (List.mem_of_getElem? hy)
        show (y.s ++ [_]).length ≤ M + 1
        rw [List.length_append]
        exact Nat.succ_le_succ this
omit [DecidableEq α] in
theorem raise_len (S : Stt α) (t : Int) (M : Nat) (h : ∀ x ∈ S.ser, x.s.length ≤ M) : ∀ x ∈ (raiseS S t).ser, x.s.length ≤ M := by
  intro x hx
  simp only [raiseS] at hx
  obtain ⟨y, hy, rfl⟩ := List.mem_map.1 hx
  exact Nat.le_trans (within_sub t top y.s).length_le (h y (List.mem_filter.1 hy).1)
theorem apply_len (S : Stt α) (r : Rec α) (M : Nat) (h : ∀ x ∈ S.ser, x.s.length ≤ M) : ∀ x ∈ (apply p S r).1.ser, x.s.length ≤ M + 1 := by
  have h1 : ∀ x ∈ S.ser, x.s.length ≤ M + 1 := fun x hx => Nat.le_succ_of_le (h x hx)
  by_cases k0 : r.kind = 0
  · rw [apply_zero p S r k0]; exact put_len p S _ _ _ _ M h
  by_cases k1 : r.kind = 1
  · cases hf : find S.ser r.l with
    | none => rw [apply_none p S r k1 hf]; exact h1
    | some i =>
      obtain ⟨y, hy, -⟩ := find_some hf
      rw [apply_some p S r k1 hf hy]
      intro x hx
      rcases List.mem_or_eq_of_mem_set hx with hx | rfl
      · exact h1 x hx
      · exact Nat.le_succ_of_le (Nat.le_trans (without_sub r.t r.hi y.s).length_le (h y (List.mem_of_getElem? hy)))
  by_cases k2 : r.kind = 2
  · rw [apply_two p S r k2]
    split
    · exact fun x hx => Nat.le_succ_of_le (raise_len S _ M h x hx)
    · exact h1
  · rw [apply_other p S r ⟨k0, k1, k2⟩]; exact h1
end Tr
/-- what a change at work leaves -/
def ApplyEnd (w : World) (b : Nat) (op : List Value) (gen err cnt : Int) (ans recs : Value) (r : Tr.Stt (List Lab) × Bool) (n0 : Nat) (e : Ending) (W' : World) : Prop :=
  e = .returned (.int .i64 (if r.2 then 0 else 9)) ∧ ∃ (v' : Value) (mb' n' : Nat) (q' : Nat → SerAt), Work w W' b v' r.1.floor mb' op gen err cnt ans recs n' q' ∧ sers q' n' = r.1.ser ∧ n' ≤ n0 + 1
theorem ApplyEnd.no {w W2 : World} {b mb n : Nat} {sl : Value} {fl gen err cnt : Int} {op : List Value} {ans recs : Value} {q : Nat → SerAt} (h : Work w W2 b sl fl mb op gen err cnt ans recs n q) {r : Tr.Stt (List Lab) × Bool} (hr : r = (⟨sers q n, fl⟩, false)) : ApplyEnd w b op gen err cnt ans recs r n (.returned (.int .i64 9)) W2 := by
  rw [hr]
  exact ⟨rfl, sl, mb, n, q, h, rfl, by omega⟩
set_option maxRecDepth 100000 in
set_option maxHeartbeats 4000000 in
theorem apply_any {w W : World} {b mb n : Nat} {sl : Value} {fl gen err cnt : Int} {op : List Value} {ans recs : Value} {q : Nat → SerAt} (hw : Work w W b sl fl mb op gen err cnt ans recs n q) (hn2 : n ≤ 900) (hs9 : ∀ i, i < n → (q i).sn ≤ 900) {x : RecAt} (hx : RecIn w x) :
    Calls Try.prog 26 #[.pointer (some ⟨b, 0, none⟩), .agg #[.int .i64 x.kind, .slice x.la x.ln x.lc, .int .i64 x.t, .int .i64 x.hi, .int .u64 x.v]] W (ApplyEnd w b op gen err cnt ans recs (Tr.apply par ⟨sers q n, fl⟩ x.rc) n) := by
  obtain ⟨A0, c0, rfl, hsr⟩ := hw.rows.sers
  obtain ⟨w1, hw1⟩ : ∃ w1, w1 = W.alloc (.cells #[.int .i64 x.kind, .slice x.la x.ln x.lc, .int .i64 x.t, .int .i64 x.hi, .int .u64 x.v] 64) := ⟨_, rfl⟩
  have hb1 : Below W.heap.size W w1 := by rw [hw1]; exact (Below.refl _ _).alloc (Nat.le_refl _) _
  have hx1 : w1.heap[W.heap.size]? = some (.cells #[.int .i64 x.kind, .slice x.la x.ln x.lc, .int .i64 x.t, .int .i64 x.hi, .int .u64 x.v] 64 (0, 0)) := by rw [hw1]; exact heap_alloc_new W _
  have HW1 := Lib.hid (hw.far hb1); have HX1 := Lib.hid hx1; have HS9 := Lib.hid hs9; have HX := Lib.hid hx; have HSR := Lib.hid (hsr.later hb1)
  have HFI := Lib.hid (fun U (hb : Below w1.heap.size w1 U) => find_any A0 n c0 q mb x.la x.ln x.lc hx.lnone x.f hx.lsize U ((hsr.later hb1).later hb) ((hw.map.later hb1).later hb) (((hx.labs.later hw.bel).later hb1).later hb))
  have HPU := Lib.hid (put_any HW1.out hn2 hs9 (c := x.lc) hx.lnone hx.lfew hx.lsize hx.labs x.t x.v 3)
  have HRA := Lib.hid (fun U (hu : Work w U b (.slice A0 n c0) fl mb op gen err cnt ans recs n q) => raise_any hu x.t)
  have HIT := Lib.hid (fun U => isTime_any x.t U)
  obtain ⟨xb, hxb⟩ : ∃ xb, xb = W.heap.size := ⟨_, rfl⟩
  rw [← hxb] at HX1
  clear hw hb1 hx1 hs9 hx hsr
  have hkx : (x.rc).kind = x.kind := rfl
  have HKX := Lib.hid hkx
  clear hkx
  by_cases k0 : x.kind = 0
  · have HA := Lib.hid (Tr.apply_zero par ⟨sers q n, fl⟩ x.rc k0)
    have e0 : (x.kind == 0) = true := by simpa using k0
    clear k0
    go_enter Try.func26, Try.ntmps26
    go_wp2_with fail
    rw [← hw1]
    clear hw1 hxb e0
    refine HPU.out.mono ?_; rintro e w2 ⟨rfl, v2, mb2, n2, q2, hw2, hs2, hn3, -⟩
    have hfin : ∀ bb : Bool, (Tr.put par ⟨sers q n, fl⟩ (La.listOf x.f x.ln) x.t x.v 3).2.1 = bb → Hid (ApplyEnd w b op gen err cnt ans recs (Tr.apply par ⟨sers q n, fl⟩ x.rc) n (.returned (.int .i64 (if bb then 0 else 9))) w2) := fun bb hbb => Lib.hid (by
      rw [HA.out]
      subst hbb
      exact ⟨rfl, v2, mb2, n2, q2, hw2, hs2, hn3⟩)
    have HF := Lib.hid hfin
    generalize (Tr.put par ⟨sers q n, fl⟩ (La.listOf x.f x.ln) x.t x.v 3).2.1 = bb at *
    generalize (Tr.put par ⟨sers q n, fl⟩ (La.listOf x.f x.ln) x.t x.v 3).2.2 = ee at *
    clear hfin hw2 hs2
    cases bb
    · have HG := HF.out false rfl
      go_wp2_with fail
      go_ret
      exact HG.out
    · have HG := HF.out true rfl
      go_wp2_with fail
      go_ret
      exact HG.out
  have e0 : (x.kind == 0) = false := by simpa using k0
  by_cases k1 : x.kind = 1
  · have HAN := Lib.hid (Tr.apply_none par ⟨sers q n, fl⟩ x.rc k1)
    have HAS := Lib.hid (fun i y => Tr.apply_some par ⟨sers q n, fl⟩ x.rc k1 (i := i) (x := y))
    have e1 : (x.kind == 1) = true := by simpa using k1
    clear k0 k1
    go_enter Try.func26, Try.ntmps26
    go_wp2_with fail
    rw [← hw1, ← hxb]
    clear hw1 hxb e0 e1
    refine plain_T (fun U => Below w1.heap.size w1 U) [] (by kernel_rfl) ?_
    have HD : Hid (Below w1.heap.size w1 w1.drew) := Lib.hid (Below.refl _ _).drew
    generalize w1.drew = wd at HD ⊢
    refine wpAnyT_pick (S := (fun U => Below w1.heap.size w1 U)) (by kernel_rfl) Only.panic Only.keepsIn (w := wd) HD.out [0, 1, 2, 3, 4, 5, 6, 7, 8, 9, 10] 2 _ _ (by kernel_rfl) ?_
    refine PickT.value (d := some 24) (.pointer (some ⟨b, 0, none⟩)) rfl rfl (by kernel_rfl) (fun U hU => (by go_simp)) ?_
    refine PickT.value (d := some 25) (.pointer (some ⟨b, 0, none⟩)) rfl rfl (by kernel_rfl) (fun U hU => (by go_simp)) ?_
    refine PickT.value (d := some 26) (.pointer (some ⟨b, 0, none⟩)) rfl rfl (by kernel_rfl) (fun U hU => (by go_simp)) ?_
    refine PickT.value (d := some 27) (.pointer (some ⟨b, 0, none⟩)) rfl rfl (by kernel_rfl) (fun U hU => (by go_simp)) ?_
    refine PickT.value (d := some 28) (.slice A0 n c0) rfl rfl (by kernel_rfl) (fun U hU => (by have h0 : U.cell? ⟨b, 0, none⟩ = some (.slice A0 n c0) := cell_of_row _ _ _ _ _ _ (heap_keep HW1.out.wk hU); go_simp)) ?_
    refine PickT.value (d := some 29) (.pointer (some ⟨b, 0, none⟩)) rfl rfl (by kernel_rfl) (fun U hU => (by go_simp)) ?_
    refine PickT.value (d := some 30) (.pointer (some ⟨b, 0, none⟩)) rfl rfl (by kernel_rfl) (fun U hU => (by go_simp)) ?_
    refine PickT.value (d := some 31) (.pointer (some ⟨b, 2, none⟩)) rfl rfl (by kernel_rfl) (fun U hU => (by go_simp)) ?_
    refine PickT.value (d := some 32) (.map (some mb)) rfl rfl (by kernel_rfl) (fun U hU => (by have h0 : U.cell? ⟨b, 2, none⟩ = some (.map (some mb)) := cell_of_row _ _ _ _ _ _ (heap_keep HW1.out.wk hU); go_simp)) ?_
    refine PickT.value (d := some 33) (.pointer (some ⟨xb, 1, none⟩)) rfl rfl (by kernel_rfl) (fun U hU => (by go_simp)) ?_
    refine PickT.value (d := some 34) (.slice x.la x.ln x.lc) rfl rfl (by kernel_rfl) (fun U hU => (by have h0 : U.cell? ⟨xb, 1, none⟩ = some (.slice x.la x.ln x.lc) := cell_of_row _ _ _ _ _ _ (heap_keep HX1.out hU); go_simp)) ?_
    simp only [PickT, Act.put, List.setIfInBounds_toArray, List.set_cons_zero, List.set_cons_succ]
    refine wpAnyT_one (i := 11) (by kernel_rfl) rfl (by kernel_rfl) ?_
    intro K hK
    unfold Oper.wp
    go_simp
    refine (HFI.out _ HD.out).mono ?_; rintro e w5 ⟨rfl, hb5⟩
    have HB5 := Lib.hid (below_step HD.out hb5); clear hb5
    refine hK _ _ (fun _ => HB5.out) ?_
    clear hK K
    have HW5 := Lib.hid (HW1.out.far HB5.out)
    cases c5 : Tr.find (sers q n) (La.listOf x.f x.ln) with
    | none =>
      rw [findI_of_none c5]
      refine wpAnyT_pick (S := (fun U => Below w1.heap.size w1 U)) (by kernel_rfl) Only.panic Only.keepsIn (w := w5) HB5.out [12] 0 _ _ (by kernel_rfl) ?_
      refine PickT.value (d := some 6) (.int .i64 (-1)) rfl rfl (by kernel_rfl) (fun U hU => (by go_simp)) ?_
      simp only [PickT, Act.put, List.setIfInBounds_toArray, List.set_cons_zero, List.set_cons_succ]
      refine wpAnyT_done (by kernel_rfl) ?_ _
      refine Only.next ?_
      have HE := Lib.hid (ApplyEnd.no HW5.out (HAN.out c5))
      clear c5
      go_wp2_with fail
      go_ret
      exact HE.out
    | some i =>
      have hi := find_lt c5
      rw [findI_of_some c5]
      refine wpAnyT_pick (S := (fun U => Below w1.heap.size w1 U)) (by kernel_rfl) Only.panic Only.keepsIn (w := w5) HB5.out [12] 0 _ _ (by kernel_rfl) ?_
      refine PickT.value (d := some 6) (.int .i64 (i : Int)) rfl rfl (by kernel_rfl) (fun U hU => (by go_simp)) ?_
      simp only [PickT, Act.put, List.setIfInBounds_toArray, List.set_cons_zero, List.set_cons_succ]
      refine wpAnyT_done (by kernel_rfl) ?_ _
      refine Only.next ?_
      obtain ⟨g, rfl⟩ := own_lit HW1.out.rows.own (by omega)
      have hx5 := heap_keep HX1.out HB5.out
      have y2 : w5.cell? ⟨xb, 2, none⟩ = some (.int .i64 x.t) := cell_of_row _ _ _ _ _ _ hx5
      have y3 : w5.cell? ⟨xb, 3, none⟩ = some (.int .i64 x.hi) := cell_of_row _ _ _ _ _ _ hx5
      have i0 : (0 : Int) ≤ (i : Int) := Int.natCast_nonneg _
      have HDR := Lib.hid (drop_any HW5.out i hi x.t x.hi)
      have HAP := Lib.hid (HAS.out i (q i).ser c5 (sers_get hi))
      clear hx5 c5
      go_wp2_with fail
      refine HDR.out.mono ?_; rintro e w10 ⟨B, mm, d, s, rfl, hmm, hs, hw10, -⟩
      have hlen : (Tr.without x.t x.hi ((List.range (q i).sn).map (q i).s)).length = mm := by rw [← hs]; simp
      have hlost : Tr.lost x.t x.hi (q i).ser = (q i).sn - mm := by
        show ((List.range (q i).sn).map (q i).s).length - (Tr.without x.t x.hi ((List.range (q i).sn).map (q i).s)).length = _
        rw [hlen]; simp
      have hser : sers (put2 q i B mm d s (q i).last) n = (sers q n).set i (Tr.cutS x.t x.hi (q i).ser) := by
        rw [sers_put2 hi, hs]; rfl
      have HF : ∀ bb : Bool, bb = decide (0 < (q i).sn - mm) → Hid (ApplyEnd w b op gen err cnt ans recs (Tr.apply par ⟨sers q n, fl⟩ x.rc) n (.returned (.int .i64 (if bb then 0 else 9))) w10) := fun bb hbb => Lib.hid (by
        rw [HAP.out, show decide (0 < Tr.lost x.rc.t x.rc.hi (q i).ser) = bb by rw [hbb]; congr 1; exact congrArg (0 < ·) hlost]
        exact ⟨rfl, _, mb, n, _, hw10, hser, by omega⟩)
      clear hw10 hser hs hlen hlost y2 y3
      by_cases hlt : mm < (q i).sn
      · have HE := HF true (decide_eq_true (by omega)).symm
        obtain ⟨lo, hlo⟩ : ∃ lo : Nat, lo = (q i).sn - mm := ⟨_, rfl⟩
        have hlo2 : ((q i).sn : Int) - (mm : Int) = (lo : Int) := by omega
        have hlp : 0 < lo := by omega
        have d1 : decide (0 < lo) = true := decide_eq_true hlp
        rw [hlo2]
        clear HF hlt hmm hlo2 hlo
        go_wp2_with fail
        go_ret
        exact HE.out
      · have HE := HF false (decide_eq_false (by omega)).symm
        have hz : ((q i).sn : Int) - (mm : Int) = 0 := by omega
        rw [hz]
        clear HF hlt hmm hz
        go_wp2_with fail
        go_ret
        exact HE.out
  have e1 : (x.kind == 1) = false := by simpa using k1
  by_cases k2 : x.kind = 2
  · have HAT := Lib.hid (Tr.apply_two par ⟨sers q n, fl⟩ x.rc k2)
    have e2 : (x.kind == 2) = true := by simpa using k2
    clear k0 k1 k2
    go_enter Try.func26, Try.ntmps26
    go_wp2_with fail
    rw [← hw1, ← hxb]
    clear hw1 hxb e0 e1 e2
    refine plain_T (fun U => Below w1.heap.size w1 U) [] (by kernel_rfl) ?_
    have HD : Hid (Below w1.heap.size w1 w1.drew) := Lib.hid (Below.refl _ _).drew
    generalize w1.drew = wd at HD ⊢
    refine wpAnyT_pick (S := (fun U => Below w1.heap.size w1 U)) (by kernel_rfl) Only.panic Only.keepsIn (w := wd) HD.out [0, 1] 12 _ _ (by kernel_rfl) ?_
    refine PickT.value (d := some 50) (.pointer (some ⟨xb, 2, none⟩)) rfl rfl (by kernel_rfl) (fun U hU => (by go_simp)) ?_
    refine PickT.value (d := some 51) (.int .i64 x.t) rfl rfl (by kernel_rfl) (fun U hU => (by have h0 : U.cell? ⟨xb, 2, none⟩ = some (.int .i64 x.t) := cell_of_row _ _ _ _ _ _ (heap_keep HX1.out hU); go_simp)) ?_
    simp only [PickT, Act.put, List.setIfInBounds_toArray, List.set_cons_zero, List.set_cons_succ]
    refine wpAnyT_one (i := 2) (by kernel_rfl) rfl (by kernel_rfl) ?_
    intro K hK
    unfold Oper.wp
    go_simp
    refine (HIT.out _).mono ?_; rintro e w2 ⟨rfl, rfl⟩
    refine hK _ _ (fun _ => HD.out) ?_
    clear hK K
    have HW2 := Lib.hid (HW1.out.far HD.out)
    cases c3 : Tr.isT x.t
    · have HE := Lib.hid (ApplyEnd.no HW2.out (HAT.out.trans (if_neg (fun h => by have := h.1; rw [show (x.rc).t = x.t from rfl, c3] at this; cases this))))
      clear c3
      refine wpAnyT_pick (S := (fun U => Below w1.heap.size w1 U)) (by kernel_rfl) Only.panic Only.keepsIn (w := w2) HD.out [3, 4, 5, 6, 7, 8, 9, 10, 11, 12, 13] 0 _ _ (by kernel_rfl) ?_
      refine PickT.value (d := some 53) (.bool false) rfl rfl (by kernel_rfl) (fun U hU => (by go_simp)) ?_
      refine PickT.skip (d := some 54) rfl rfl (by kernel_rfl) ?_
      refine PickT.skip (d := some 55) rfl rfl (by kernel_rfl) ?_
      refine PickT.skip (d := some 56) rfl rfl (by kernel_rfl) ?_
      refine PickT.skip (d := some 57) rfl rfl (by kernel_rfl) ?_
      refine PickT.skip (d := some 58) rfl rfl (by kernel_rfl) ?_
      refine PickT.skip (d := some 59) rfl rfl (by kernel_rfl) ?_
      refine PickT.skip (d := some 60) rfl rfl (by kernel_rfl) ?_
      refine PickT.skip (d := some 61) rfl rfl (by kernel_rfl) ?_
      refine PickT.value (d := some 62) (.bool false) rfl rfl (by kernel_rfl) (fun U hU => (by go_simp)) ?_
      refine PickT.value (d := some 5) (.bool false) rfl rfl (by kernel_rfl) (fun U hU => (by go_simp)) ?_
      simp only [PickT, Act.put, List.setIfInBounds_toArray, List.set_cons_zero, List.set_cons_succ]
      refine wpAnyT_done (by kernel_rfl) ?_ _
      refine Only.next ?_
      go_wp2_with fail
      go_ret
      exact HE.out
    · by_cases c4 : fl < x.t
      · have HA2 : Hid (Tr.apply par ⟨sers q n, fl⟩ x.rc = (Tr.raiseS ⟨sers q n, fl⟩ x.t, true)) := Lib.hid (HAT.out.trans (if_pos ⟨c3, c4⟩))
        have d4 : decide (fl < x.t) = true := decide_eq_true c4
        have HRX := Lib.hid (HRA.out _ HW2.out)
        have y2 : w2.cell? ⟨xb, 2, none⟩ = some (.int .i64 x.t) := cell_of_row _ _ _ _ _ _ (heap_keep HX1.out HD.out)
        clear c3
        refine wpAnyT_pick (S := (fun U => Below w1.heap.size w1 U)) (by kernel_rfl) Only.panic Only.keepsIn (w := w2) HD.out [3, 4, 5, 6, 7, 8, 9, 10, 11, 12, 13] 0 _ _ (by kernel_rfl) ?_
        refine PickT.value (d := some 53) (.bool true) rfl rfl (by kernel_rfl) (fun U hU => (by go_simp)) ?_
        refine PickT.value (d := some 54) (.pointer (some ⟨xb, 2, none⟩)) rfl rfl (by kernel_rfl) (fun U hU => (by go_simp)) ?_
        refine PickT.value (d := some 55) (.int .i64 x.t) rfl rfl (by kernel_rfl) (fun U hU => (by have h0 : U.cell? ⟨xb, 2, none⟩ = some (.int .i64 x.t) := cell_of_row _ _ _ _ _ _ (heap_keep HX1.out hU); go_simp)) ?_
        refine PickT.value (d := some 56) (.pointer (some ⟨b, 0, none⟩)) rfl rfl (by kernel_rfl) (fun U hU => (by go_simp)) ?_
        refine PickT.value (d := some 57) (.pointer (some ⟨b, 0, none⟩)) rfl rfl (by kernel_rfl) (fun U hU => (by go_simp)) ?_
        refine PickT.value (d := some 58) (.pointer (some ⟨b, 0, none⟩)) rfl rfl (by kernel_rfl) (fun U hU => (by go_simp)) ?_
        refine PickT.value (d := some 59) (.pointer (some ⟨b, 1, none⟩)) rfl rfl (by kernel_rfl) (fun U hU => (by go_simp)) ?_
        refine PickT.value (d := some 60) (.int .i64 fl) rfl rfl (by kernel_rfl) (fun U hU => (by have h0 : U.cell? ⟨b, 1, none⟩ = some (.int .i64 fl) := cell_of_row _ _ _ _ _ _ (heap_keep HW1.out.wk hU); go_simp)) ?_
        refine PickT.value (d := some 61) (.bool true) rfl rfl (by kernel_rfl) (fun U hU => (by go_simp)) ?_
        refine PickT.value (d := some 62) (.bool true) rfl rfl (by kernel_rfl) (fun U hU => (by go_simp)) ?_
        refine PickT.value (d := some 5) (.bool true) rfl rfl (by kernel_rfl) (fun U hU => (by go_simp)) ?_
        simp only [PickT, Act.put, List.setIfInBounds_toArray, List.set_cons_zero, List.set_cons_succ]
        refine wpAnyT_done (by kernel_rfl) ?_ _
        refine Only.next ?_
        go_wp2_with fail
        refine HRX.out.mono ?_; rintro e w3 ⟨v3, mb3, n3, q3, rfl, hw3, hs3⟩
        have hn3 : n3 ≤ n := by
          have := congrArg List.length hs3
          rw [sers_length, List.length_map] at this
          have h2 := (List.filter_sublist (p := Tr.stays x.t) (l := sers q n)).length_le
          rw [sers_length] at h2
          omega
        have HE : Hid (ApplyEnd w b op gen err cnt ans recs (Tr.apply par ⟨sers q n, fl⟩ x.rc) n (.returned (.int .i64 0)) w3) := Lib.hid (by
          rw [HA2.out]
          exact ⟨rfl, v3, mb3, n3, q3, hw3, hs3, by omega⟩)
        clear hw3 hs3 y2 c4 d4
        go_wp2_with fail
        go_ret
        exact HE.out
      · have HE := Lib.hid (ApplyEnd.no HW2.out (HAT.out.trans (if_neg (fun h => c4 h.2))))
        have d4 : decide (fl < x.t) = false := decide_eq_false c4
        clear c3
        refine wpAnyT_pick (S := (fun U => Below w1.heap.size w1 U)) (by kernel_rfl) Only.panic Only.keepsIn (w := w2) HD.out [3, 4, 5, 6, 7, 8, 9, 10, 11, 12, 13] 0 _ _ (by kernel_rfl) ?_
        refine PickT.value (d := some 53) (.bool true) rfl rfl (by kernel_rfl) (fun U hU => (by go_simp)) ?_
        refine PickT.value (d := some 54) (.pointer (some ⟨xb, 2, none⟩)) rfl rfl (by kernel_rfl) (fun U hU => (by go_simp)) ?_
        refine PickT.value (d := some 55) (.int .i64 x.t) rfl rfl (by kernel_rfl) (fun U hU => (by have h0 : U.cell? ⟨xb, 2, none⟩ = some (.int .i64 x.t) := cell_of_row _ _ _ _ _ _ (heap_keep HX1.out hU); go_simp)) ?_
        refine PickT.value (d := some 56) (.pointer (some ⟨b, 0, none⟩)) rfl rfl (by kernel_rfl) (fun U hU => (by go_simp)) ?_
        refine PickT.value (d := some 57) (.pointer (some ⟨b, 0, none⟩)) rfl rfl (by kernel_rfl) (fun U hU => (by go_simp)) ?_
        refine PickT.value (d := some 58) (.pointer (some ⟨b, 0, none⟩)) rfl rfl (by kernel_rfl) (fun U hU => (by go_simp)) ?_
        refine PickT.value (d := some 59) (.pointer (some ⟨b, 1, none⟩)) rfl rfl (by kernel_rfl) (fun U hU => (by go_simp)) ?_
        refine PickT.value (d := some 60) (.int .i64 fl) rfl rfl (by kernel_rfl) (fun U hU => (by have h0 : U.cell? ⟨b, 1, none⟩ = some (.int .i64 fl) := cell_of_row _ _ _ _ _ _ (heap_keep HW1.out.wk hU); go_simp)) ?_
        refine PickT.value (d := some 61) (.bool false) rfl rfl (by kernel_rfl) (fun U hU => (by go_simp)) ?_
        refine PickT.value (d := some 62) (.bool false) rfl rfl (by kernel_rfl) (fun U hU => (by go_simp)) ?_
        refine PickT.value (d := some 5) (.bool false) rfl rfl (by kernel_rfl) (fun U hU => (by go_simp)) ?_
        simp only [PickT, Act.put, List.setIfInBounds_toArray, List.set_cons_zero, List.set_cons_succ]
        refine wpAnyT_done (by kernel_rfl) ?_ _
        refine Only.next ?_
        clear c4 d4
        go_wp2_with fail
        go_ret
        exact HE.out
  · have e2 : (x.kind == 2) = false := by simpa using k2
    have HE := Lib.hid (ApplyEnd.no HW1.out (Tr.apply_other par ⟨sers q n, fl⟩ x.rc ⟨k0, k1, k2⟩))
    clear k0 k1 k2
    go_enter Try.func26, Try.ntmps26
    go_wp2_with fail
    rw [← hw1]
    go_ret
    exact HE.out
end Go.Proofs.Ytidfanmfibbiiaa
/-
  What Apply and All come to.
-/
namespace Go.Proofs.Ytidfanmfibbiiaa
open Go.RowKit
theorem sn_of {q : Nat → SerAt} {n B : Nat} (h : ∀ x ∈ sers q n, x.s.length ≤ B) : ∀ i, i < n → (q i).sn ≤ B := fun i hi => by
  have h1 := h (q i).ser (List.mem_of_getElem? (sers_get hi))
  have h2 : (q i).ser.s.length = (q i).sn := by show ((List.range (q i).sn).map (q i).s).length = _; simp
  omega
theorem of_sn {q : Nat → SerAt} {n B : Nat} (h : ∀ i, i < n → (q i).sn ≤ B) : ∀ x ∈ sers q n, x.s.length ≤ B := fun x hx => by
  obtain ⟨i, hi, rfl⟩ := List.mem_map.1 hx
  have h2 : (q i).ser.s.length = (q i).sn := by show ((List.range (q i).sn).map (q i).s).length = _; simp
  have := h i (List.mem_range.1 hi)
  omega
theorem state_laid {W8 : World} {r2 : Nat} {x0 x1 : Value} (h2 : W8.heap[r2]? = some (.cells #[x0, x1] 28 (0, 0))) (a b1 : Value) :
    ((W8.setCell ⟨r2, 0, none⟩ a).setCell ⟨r2, 1, none⟩ b1).heap[r2]? = some (.cells #[a, b1] 28 (0, 0)) ∧
    Keeps [28] W8 ((W8.setCell ⟨r2, 0, none⟩ a).setCell ⟨r2, 1, none⟩ b1) ∧
    ∀ (w : World), w.heap.size ≤ r2 → Below w.heap.size w W8 → Below w.heap.size w ((W8.setCell ⟨r2, 0, none⟩ a).setCell ⟨r2, 1, none⟩ b1) := by
  have g1 := grown_trans (grown_setCell W8 r2 0 a) (grown_setCell _ r2 1 b1)
  have k2 := heap_setCell_same _ r2 1 _ _ b1 (heap_setCell_same _ r2 0 _ _ a h2)
  exact ⟨k2.trans rfl, Keeps.grown h2 (by simp) g1, fun w ha hbel => hbel.grown g1 hbel.size (fun r e => by cases e; exact ha)⟩
/-- a state, and something told of it -/
def StEnd (w : World) (S : Tr.Stt (List Lab)) (v : Value) (e : Ending) (w' : World) : Prop :=
  ∃ (A : Option Addr) (n c : Nat) (q : Nat → SerAt), e = .returned (.tuple #[.agg #[.slice A n c, .int .i64 S.floor], v]) ∧ Sers w' A n c q ∧ sers q n = S.ser ∧ Below w.heap.size w w'
def errOf (b : Bool) : Int := if b then 0 else 9
/-- the work at its beginning -/
theorem work_new {w W : World} {b mb n : Nat} {v : Value} {fl : Int} {q : Nat → SerAt} (hb : w.heap.size ≤ b) (hm : w.heap.size ≤ mb) (hwk : W.heap[b]? = some (.cells (workCells v fl (.map (some mb)) op0 0 0 0 (.slice none 0 0) (.slice none 0 0)) 70 (0, 0))) (hr : WorkRows W w.heap.size v n q) (hmap : MapIs Try.prog 100 W mb n (firstK (keysOf q) n n)) (hbel : Below w.heap.size w W) : Work w W b v fl mb op0 0 0 0 (.slice none 0 0) (.slice none 0 0) n q := ⟨hbel, hb, hwk, hr, hm, hmap⟩
set_option maxRecDepth 100000 in
set_option maxHeartbeats 4000000 in
theorem Apply_any (A : Option Addr) (n c : Nat) (q : Nat → SerAt) (fl : Int) (x : RecAt) (w : World) (hA : Sers w A n c q) (hn2 : n ≤ 900) (hs9 : ∀ i, i < n → (q i).sn ≤ 900) (hx : RecIn w x) :
    Calls Try.prog 19 #[.agg #[.slice A n c, .int .i64 fl], .agg #[.int .i64 x.kind, .slice x.la x.ln x.lc, .int .i64 x.t, .int .i64 x.hi, .int .u64 x.v]] w (StEnd w (Tr.apply par ⟨sers q n, fl⟩ x.rc).1 (.int .i64 (errOf (Tr.apply par ⟨sers q n, fl⟩ x.rc).2))) := by
  obtain ⟨w1, hw1⟩ : ∃ w1, w1 = w.alloc (.cells #[.slice A n c, .int .i64 fl] 28) := ⟨_, rfl⟩
  obtain ⟨w2, hw2⟩ : ∃ w2, w2 = w1.alloc (.cells #[.int .i64 x.kind, .slice x.la x.ln x.lc, .int .i64 x.t, .int .i64 x.hi, .int .u64 x.v] 64) := ⟨_, rfl⟩
  obtain ⟨w3, hw3⟩ : ∃ w3, w3 = w2.alloc (.cells #[.slice none 0 0, .int .i64 0] 28) := ⟨_, rfl⟩
  have hz1 : w1.heap.size = w.heap.size + 1 := by rw [hw1]; simp
  have hz2 : w2.heap.size = w.heap.size + 2 := by rw [hw2]; simp [hz1]
  have hz3 : w3.heap.size = w.heap.size + 3 := by rw [hw3]; simp [hz2]
  have hb1 : Below w.heap.size w w1 := by rw [hw1]; exact (Below.refl _ _).alloc (Nat.le_refl _) _
  have hb2 : Below w.heap.size w w2 := by rw [hw2]; exact hb1.alloc hb1.size _
  have hb3 : Below w.heap.size w w3 := by rw [hw3]; exact hb2.alloc hb2.size _
  have b23 : Below w2.heap.size w2 w3 := by rw [hw3]; exact (Below.refl _ _).alloc (Nat.le_refl _) _
  have hx3 : w3.heap[w.heap.size + 1]? = some (.cells #[.int .i64 x.kind, .slice x.la x.ln x.lc, .int .i64 x.t, .int .i64 x.hi, .int .u64 x.v] 64 (0, 0)) := heap_keep (by rw [← hz1, hw2]; exact heap_alloc_new w1 _) b23
  have hr3 : w3.heap[w.heap.size + 2]? = some (.cells #[.slice none 0 0, .int .i64 0] 28 (0, 0)) := by rw [← hz2, hw3]; exact heap_alloc_new w2 _
  have HX3 := Lib.hid hx3; have HR3 := Lib.hid hr3; have HB3 := Lib.hid hb3; have HZ3 := Lib.hid hz3
  have HBG := Lib.hid (begin_any A n c q fl w3 (hA.later hb3))
  have HX := Lib.hid (hx.later hb3)
  have HS9 := Lib.hid hs9
  clear hA hx hx3 hr3 hz1 hz2 hz3 hb1 hb2 hb3 b23 hs9
  go_enter Try.func19, Try.ntmps19
  go_wp2_with fail
  rw [← hw1, ← hw2, ← hw3]
  clear hw1 hw2 hw3
  refine HBG.out.mono ?_; rintro e w5 ⟨b, v5, mb, q5, rfl, hbl, hml, hwk, hrows, hmap, hal, hb5⟩
  have HW5 := Lib.hid (work_new hbl hml hwk hrows hmap hb5)
  have HSS : Hid (sers q5 n = sers q n) := Lib.hid (alike_sers hal)
  have hx5 := heap_keep HX3.out hb5
  have y0 : w5.cell? ⟨w.heap.size + 1, 0, none⟩ = some (.int .i64 x.kind) := cell_of_row _ _ _ _ _ _ hx5
  have y1 : w5.cell? ⟨w.heap.size + 1, 1, none⟩ = some (.slice x.la x.ln x.lc) := cell_of_row _ _ _ _ _ _ hx5
  have y2 : w5.cell? ⟨w.heap.size + 1, 2, none⟩ = some (.int .i64 x.t) := cell_of_row _ _ _ _ _ _ hx5
  have y3 : w5.cell? ⟨w.heap.size + 1, 3, none⟩ = some (.int .i64 x.hi) := cell_of_row _ _ _ _ _ _ hx5
  have y4 : w5.cell? ⟨w.heap.size + 1, 4, none⟩ = some (.int .u64 x.v) := cell_of_row _ _ _ _ _ _ hx5
  have HAP := Lib.hid (apply_any HW5.out hn2 (fun i hi => by rw [(hal i hi).sn]; exact HS9.out i hi) HX.out)
  rw [HSS.out] at HAP
  clear hwk hrows hmap hal hb5 hx5
  go_wp2_with fail
  refine HAP.out.mono ?_; rintro e w8 ⟨rfl, v8, mb8, n8, q8, hw8, hs8, -⟩
  obtain ⟨A8, c8, rfl, -⟩ := hw8.rows.sers
  have HW8 := Lib.hid hw8; have HS8 := Lib.hid hs8
  have hr8 := heap_keep HR3.out hw8.bel
  have x0 : w8.cell? ⟨b, 0, none⟩ = some (.slice A8 n8 c8) := cell_of_row _ _ _ _ _ _ hw8.wk
  have x1 : w8.cell? ⟨b, 1, none⟩ = some (.int .i64 (Tr.apply par ⟨sers q n, fl⟩ x.rc).1.floor) := cell_of_row _ _ _ _ _ _ hw8.wk
  have p0 : w8.cell? ⟨w.heap.size + 2, 0, none⟩ = some (.slice none 0 0) := cell_of_row _ _ _ _ _ _ hr8
  have p1 : w8.cell? ⟨w.heap.size + 2, 1, none⟩ = some (.int .i64 0) := cell_of_row _ _ _ _ _ _ hr8
  have g0 : w8.frozen? ⟨w.heap.size + 2, 0, none⟩ = false := frozen_of_row _ _ _ _ _ hr8
  have g1 : w8.frozen? ⟨w.heap.size + 2, 1, none⟩ = false := frozen_of_row _ _ _ _ _ hr8
  have HRL := Lib.hid (state_laid hr8 (.slice A8 n8 c8) (.int .i64 (Tr.apply par ⟨sers q n, fl⟩ x.rc).1.floor))
  have HBW : Hid (Below w.heap.size w w8) := Lib.hid (below_step HB3.out hw8.bel)
  have HFIN := Lib.hid (show ∀ W9 : World, Keeps [28] w8 W9 → Below w.heap.size w W9 → StEnd w (Tr.apply par ⟨sers q n, fl⟩ x.rc).1 (.int .i64 (errOf (Tr.apply par ⟨sers q n, fl⟩ x.rc).2)) (.returned (.tuple #[.agg #[.slice A8 n8 c8, .int .i64 (Tr.apply par ⟨sers q n, fl⟩ x.rc).1.floor], .int .i64 (errOf (Tr.apply par ⟨sers q n, fl⟩ x.rc).2)])) W9 from fun W9 hk hb => by
    obtain ⟨A9, c9, e9, hs9⟩ := (HW8.out.rows.keeps hk (by decide) (by decide) (by decide)).sers
    cases e9
    exact ⟨A8, n8, c8, q8, rfl, hs9, HS8.out, hb⟩)
  clear hw8 hs8 hr8
  generalize hra : (Tr.apply par ⟨sers q n, fl⟩ x.rc).1.floor = fr at *
  have he : (if (Tr.apply par ⟨sers q n, fl⟩ x.rc).2 = true then (0 : Int) else 9) = errOf (Tr.apply par ⟨sers q n, fl⟩ x.rc).2 := rfl
  rw [he]
  clear he
  go_wp2_with fail
  obtain ⟨k2, kk, kb⟩ := HRL.out
  have hfin := HFIN.out _ kk (kb w (by omega) HBW.out)
  have r0 := cell_of_row _ _ 0 _ _ _ k2
  have r1 := cell_of_row _ _ 1 _ _ _ k2
  refine bodyPost_ret (v := .tuple #[.agg #[.slice A8 n8 c8, .int .i64 fr], .int .i64 (errOf (Tr.apply par ⟨sers q n, fl⟩ x.rc).2)]) (by simp [results, go_sem, r0, r1]) rfl hfin
/-- what holds while changes are applied, one by one -/
structure AllAt (w wr : World) (b k n0 M : Nat) (S0 : Tr.Stt (List Lab)) (L : List (Tr.Rec (List Lab))) (S : Tr.Stt (List Lab)) (v : Value) (mb n : Nat) (q : Nat → SerAt) : Prop where
  work : Work w wr b v S.floor mb op0 0 0 0 (.slice none 0 0) (.slice none 0 0) n q
  ser : sers q n = S.ser
  few : n ≤ n0 + k
  len : ∀ x ∈ S.ser, x.s.length ≤ M + k
  all : Tr.all par S0 L = ((Tr.all par S (L.drop k)).1, (Tr.all par S (L.drop k)).2 + k)
theorem all_cons {α μ : Type} [DecidableEq α] (p : Tr.Par α μ) (S : Tr.Stt α) (r : Tr.Rec α) (L : List (Tr.Rec α)) : Tr.all p S (r :: L) = if (Tr.apply p S r).2 then ((Tr.all p (Tr.apply p S r).1 L).1, (Tr.all p (Tr.apply p S r).1 L).2 + 1) else ((Tr.apply p S r).1, 0) := rfl
theorem recsL_drop (r : Nat → RecAt) {m k : Nat} (h : k < m) : (recsL r m).drop k = (r k).rc :: (recsL r m).drop (k + 1) := by
  have hl : (recsL r m).length = m := by simp [recsL]
  rw [List.drop_eq_getElem_cons (by omega)]
  congr 1
  simp [recsL]
set_option maxRecDepth 100000 in
set_option maxHeartbeats 4000000 in
theorem RAll_any (A : Option Addr) (n c : Nat) (q : Nat → SerAt) (fl : Int) (B : Option Addr) (m d : Nat) (rr : Nat → RecAt) (M : Nat) (w : World) (hA : Sers w A n c q) (hn2 : n + m ≤ 900) (hM : M + m ≤ 900) (hs9 : ∀ i, i < n → (q i).sn ≤ M) (hx : RecsIn w B m d rr) :
    Calls Try.prog 12 #[.agg #[.slice A n c, .int .i64 fl], .slice B m d] w (StEnd w (Tr.all par ⟨sers q n, fl⟩ (recsL rr m)).1 (.int .i64 ((Tr.all par ⟨sers q n, fl⟩ (recsL rr m)).2 : Nat))) := by
  obtain ⟨w1, hw1⟩ : ∃ w1, w1 = w.alloc (.cells #[.slice A n c, .int .i64 fl] 28) := ⟨_, rfl⟩
  obtain ⟨w2, hw2⟩ : ∃ w2, w2 = w1.alloc (.cells #[.slice none 0 0, .int .i64 0] 28) := ⟨_, rfl⟩
  have hz1 : w1.heap.size = w.heap.size + 1 := by rw [hw1]; simp
  have hz2 : w2.heap.size = w.heap.size + 2 := by rw [hw2]; simp [hz1]
  have hb1 : Below w.heap.size w w1 := by rw [hw1]; exact (Below.refl _ _).alloc (Nat.le_refl _) _
  have hb2 : Below w.heap.size w w2 := by rw [hw2]; exact hb1.alloc hb1.size _
  have hr2 : w2.heap[w.heap.size + 1]? = some (.cells #[.slice none 0 0, .int .i64 0] 28 (0, 0)) := by rw [← hz1, hw2]; exact heap_alloc_new w1 _
  have HR2 := Lib.hid hr2; have HB2 := Lib.hid hb2; have HZ2 := Lib.hid hz2
  have HBG := Lib.hid (begin_any A n c q fl w2 (hA.later hb2))
  have HX := Lib.hid (hx.later hb2)
  have HS9 := Lib.hid hs9
  have hmf := hx.few
  clear hA hx hr2 hz1 hz2 hb1 hb2 hs9
  go_enter Try.func12, Try.ntmps12
  go_wp2_with fail
  rw [← hw1, ← hw2]
  clear hw1 hw2
  refine HBG.out.mono ?_; rintro e w5 ⟨b, v5, mb, q5, rfl, hbl, hml, hwk, hrows, hmap, hal, hb5⟩
  have HSS : sers q5 n = sers q n := alike_sers hal
  have HST : Hid (AllAt w2 w5 b 0 n M ⟨sers q n, fl⟩ (recsL rr m) ⟨sers q n, fl⟩ v5 mb n q5) := Lib.hid ⟨work_new hbl hml hwk hrows hmap hb5, HSS, by omega, of_sn HS9.out, rfl⟩
  clear hwk hrows hmap hal hb5 hml HSS
  go_wp2_with fail
  have hS0 : ∃ S0 : Tr.Stt (List Lab), S0 = ⟨sers q n, fl⟩ := ⟨_, rfl⟩
  go_loopw [7, 8, 13] (fun _ _ i wr => ∃ (k : Nat) (S : Tr.Stt (List Lab)) (v : Value) (mb n' : Nat) (q' : Nat → SerAt), k ≤ m ∧ i = .int .i64 k ∧ AllAt w2 wr b k n M ⟨sers q n, fl⟩ (recsL rr m) S v mb n' q') (fun _ _ i _ => m - (intOf i).toNat)
  case atStart => exact ⟨0, _, v5, mb, n, q5, by omega, rfl, HST.out⟩
  case round =>
    obtain ⟨k, S, v, mb, n', q', hkm, rfl, hat⟩ := hrel
    have HAT := Lib.hid hat; clear hat HST hS0
    obtain ⟨A8, c8, rfl, -⟩ := HAT.out.work.rows.sers
    have i0 : (0 : Int) ≤ (k : Int) := Int.natCast_nonneg _
    by_cases hlt : k < m
    · have i1 : (k : Int) < (m : Int) := by omega
      have d1 : decide ((k : Int) < (m : Int)) = true := decide_eq_true i1
      have hxr := HX.out.later HAT.out.work.bel
      obtain ⟨ad, rfl, cc0, cc⟩ := hxr.row.at_ (Below.refl _ _) hlt
      have c0 := cc0 (by decide)
      have c1 : wr.cell? ⟨(ad.add (k * 5)).block, (ad.add (k * 5)).off + 1, none⟩ = some (.slice (rr k).la (rr k).ln (rr k).lc) := cc 1 (by omega) (by omega)
      have c2 : wr.cell? ⟨(ad.add (k * 5)).block, (ad.add (k * 5)).off + 2, none⟩ = some (.int .i64 (rr k).t) := cc 2 (by omega) (by omega)
      have c3 : wr.cell? ⟨(ad.add (k * 5)).block, (ad.add (k * 5)).off + 3, none⟩ = some (.int .i64 (rr k).hi) := cc 3 (by omega) (by omega)
      have c4 : wr.cell? ⟨(ad.add (k * 5)).block, (ad.add (k * 5)).off + 4, none⟩ = some (.int .u64 (rr k).v) := cc 4 (by omega) (by omega)
      have v0 : cx rr k 0 = .int .i64 (rr k).kind := rfl
      rw [v0] at c0
      obtain ⟨w8, hw8⟩ : ∃ w8, w8 = wr.alloc (.cells #[.int .i64 (rr k).kind, .slice (rr k).la (rr k).ln (rr k).lc, .int .i64 (rr k).t, .int .i64 (rr k).hi, .int .u64 (rr k).v] 64) := ⟨_, rfl⟩
      have hb8 : Below wr.heap.size wr w8 := by rw [hw8]; exact (Below.refl _ _).alloc (Nat.le_refl _) _
      have hfewk := HAT.out.few
      have hSn := HAT.out.ser
      have HAP := Lib.hid (apply_any (HAT.out.work.far hb8) (by omega) (sn_of (by rw [HAT.out.ser]; exact fun x hx => Nat.le_trans (HAT.out.len x hx) (by omega))) (HX.out.each k hlt))
      rw [hSn] at HAP
      have HDR := Lib.hid (recsL_drop rr hlt)
      clear hSn v0 cc0 cc hb8 hxr
      go_wp2_with fail
      rw [← hw8]
      clear hw8 c0 c1 c2 c3 c4
      refine HAP.out.mono ?_; rintro e w9 ⟨rfl, v9, mb9, n9, q9, hw9, hs9, hn9⟩
      obtain ⟨A9, c9, rfl, -⟩ := hw9.rows.sers
      have HLEN := Lib.hid (Tr.apply_len par S (rr k).rc (M + k) HAT.out.len)
      have HALL := HAT.out.all
      rw [HDR.out] at HALL
      have HW9 := Lib.hid hw9; have HS9' := Lib.hid hs9
      generalize hap : Tr.apply par S (rr k).rc = ra at *
      cases hb : ra.2
      · have hall2 : Tr.all par ⟨sers q n, fl⟩ (recsL rr m) = (ra.1, k) := by
          rw [HALL, all_cons, hap, hb, if_neg (by decide), Nat.zero_add]
        have hr9 := heap_keep HR2.out hw9.bel
        have x0 : w9.cell? ⟨b, 0, none⟩ = some (.slice A9 n9 c9) := cell_of_row _ _ _ _ _ _ hw9.wk
        have x1 : w9.cell? ⟨b, 1, none⟩ = some (.int .i64 ra.1.floor) := cell_of_row _ _ _ _ _ _ hw9.wk
        have p0 : w9.cell? ⟨w.heap.size + 1, 0, none⟩ = some (.slice none 0 0) := cell_of_row _ _ _ _ _ _ hr9
        have p1 : w9.cell? ⟨w.heap.size + 1, 1, none⟩ = some (.int .i64 0) := cell_of_row _ _ _ _ _ _ hr9
        have g0 : w9.frozen? ⟨w.heap.size + 1, 0, none⟩ = false := frozen_of_row _ _ _ _ _ hr9
        have g1 : w9.frozen? ⟨w.heap.size + 1, 1, none⟩ = false := frozen_of_row _ _ _ _ _ hr9
        have HRL := Lib.hid (state_laid hr9 (.slice A9 n9 c9) (.int .i64 ra.1.floor))
        have HBW : Hid (Below w.heap.size w w9) := Lib.hid (below_step HB2.out hw9.bel)
        have HFIN := Lib.hid (show ∀ W9 : World, Keeps [28] w9 W9 → Below w.heap.size w W9 → StEnd w (Tr.all par ⟨sers q n, fl⟩ (recsL rr m)).1 (.int .i64 ((Tr.all par ⟨sers q n, fl⟩ (recsL rr m)).2 : Nat)) (.returned (.tuple #[.agg #[.slice A9 n9 c9, .int .i64 ra.1.floor], .int .i64 (k : Int)])) W9 from fun W9 hk hb => by
          obtain ⟨A7, c7, e7, hs7⟩ := (HW9.out.rows.keeps hk (by decide) (by decide) (by decide)).sers
          cases e7
          rw [hall2]
          exact ⟨A9, n9, c9, q9, rfl, hs7, HS9'.out, hb⟩)
        clear hw9 hs9 hr9 HALL hall2 HLEN hap hb
        generalize ra.1.floor = fr at *
        go_wp2_with fail
        obtain ⟨k2, kk, kb⟩ := HRL.out
        have hfin := HFIN.out _ kk (kb w (by omega) HBW.out)
        have r0 := cell_of_row _ _ 0 _ _ _ k2
        have r1 := cell_of_row _ _ 1 _ _ _ k2
        refine bodyPost_ret (v := .tuple #[.agg #[.slice A9 n9 c9, .int .i64 fr], .int .i64 (k : Int)]) (by simp [results, go_sem, r0, r1]) rfl hfin
      · have HN : Hid (AllAt w2 w9 b (k + 1) n M ⟨sers q n, fl⟩ (recsL rr m) ra.1 (.slice A9 n9 c9) mb9 n9 q9) := Lib.hid ⟨hw9, hs9, by omega, fun x hx => Nat.le_trans (HLEN.out x hx) (by omega), by
          rw [HALL]
          rw [all_cons, hap, hb, if_pos rfl, Nat.add_assoc, Nat.add_comm 1 k]⟩
        clear hw9 hs9 HALL HLEN hap
        go_wp2_with fail
        go_roundw
        case rel => exact ⟨k + 1, ra.1, _, mb9, n9, q9, by omega, by go_num, HN.out⟩
        case measure => simp [intOf]; omega
    · have hkk : k = m := by omega
      have d1 : decide ((k : Int) < (m : Int)) = false := decide_eq_false (by omega)
      have hl : (recsL rr m).length = m := by simp [recsL]
      have hall2 : Tr.all par ⟨sers q n, fl⟩ (recsL rr m) = (S, m) := by
        rw [HAT.out.all, hkk, List.drop_of_length_le (by omega)]
        simp [Tr.all]
      have hr9 := heap_keep HR2.out HAT.out.work.bel
      have x0 : wr.cell? ⟨b, 0, none⟩ = some (.slice A8 n' c8) := cell_of_row _ _ _ _ _ _ HAT.out.work.wk
      have x1 : wr.cell? ⟨b, 1, none⟩ = some (.int .i64 S.floor) := cell_of_row _ _ _ _ _ _ HAT.out.work.wk
      have p0 : wr.cell? ⟨w.heap.size + 1, 0, none⟩ = some (.slice none 0 0) := cell_of_row _ _ _ _ _ _ hr9
      have p1 : wr.cell? ⟨w.heap.size + 1, 1, none⟩ = some (.int .i64 0) := cell_of_row _ _ _ _ _ _ hr9
      have g0 : wr.frozen? ⟨w.heap.size + 1, 0, none⟩ = false := frozen_of_row _ _ _ _ _ hr9
      have g1 : wr.frozen? ⟨w.heap.size + 1, 1, none⟩ = false := frozen_of_row _ _ _ _ _ hr9
      have HRL := Lib.hid (state_laid hr9 (.slice A8 n' c8) (.int .i64 S.floor))
      have HBW : Hid (Below w.heap.size w wr) := Lib.hid (below_step HB2.out HAT.out.work.bel)
      have HFIN := Lib.hid (show ∀ W9 : World, Keeps [28] wr W9 → Below w.heap.size w W9 → StEnd w (Tr.all par ⟨sers q n, fl⟩ (recsL rr m)).1 (.int .i64 ((Tr.all par ⟨sers q n, fl⟩ (recsL rr m)).2 : Nat)) (.returned (.tuple #[.agg #[.slice A8 n' c8, .int .i64 S.floor], .int .i64 (m : Int)])) W9 from fun W9 hk hb => by
        obtain ⟨A7, c7, e7, hs7⟩ := (HAT.out.work.rows.keeps hk (by decide) (by decide) (by decide)).sers
        cases e7
        rw [hall2]
        exact ⟨A8, n', c8, q', rfl, hs7, HAT.out.ser, hb⟩)
      clear hr9 hall2 hl hkk
      generalize S.floor = fr at *
      go_wp2_with fail
      obtain ⟨k2, kk, kb⟩ := HRL.out
      have hfin := HFIN.out _ kk (kb w (by omega) HBW.out)
      have r0 := cell_of_row _ _ 0 _ _ _ k2
      have r1 := cell_of_row _ _ 1 _ _ _ k2
      refine bodyPost_ret (v := .tuple #[.agg #[.slice A8 n' c8, .int .i64 fr], .int .i64 (m : Int)]) (by simp [results, go_sem, r0, r1]) rfl hfin
end Go.Proofs.Ytidfanmfibbiiaa
