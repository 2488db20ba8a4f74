/-
  What the functions of package frame come to: Split, walked.
-/
import Derived.Test.YteohhcnadoaciaaFrF
import Derived.RangeFuncBox
namespace Go.Proofs.Yteohhcnadoaciaa
open Go.RowKit Go.Shelf
attribute [local go_sem] Oper.semAt_some

theorem own_from {w : World} {base b2 : Nat} {e : TypeId} {size n : Nat} {v : Value} {xs : List Value} (h : w.ownsRow base e size v n xs) (hb : b2 ≤ base) : w.ownsRow b2 e size v n xs := by
  refine ⟨h.1, ?_⟩
  rcases h.2 with ⟨rfl, h2⟩ | ⟨g, cap, cur, rfl, hb2, rest⟩
  · exact .inl ⟨rfl, h2⟩
  · exact .inr ⟨g, cap, cur, rfl, by omega, rest⟩
theorem info_string : (Try.prog.info? 9).map (fun i => (i.zero, i.size, i.bytes)) = some (some (.string ByteArray.empty), 1, 16) := by kernel_rfl
theorem str_empty (s : ByteArray) (h : s.toList.isEmpty = true) : s = ByteArray.empty := by
  rw [ByteArray.toList_eq] at h
  apply ByteArray.size_eq_zero_iff.1
  have : s.data.toList = [] := by simpa using h
  have h2 := congrArg List.length this
  simpa using h2

set_option maxRecDepth 100000 in
set_option maxHeartbeats 1000000 in
theorem Split_any (s : ByteArray) (hs : s.size ≤ 1099511627776) (most : Int) (hm : Hid (-9223372036854775808 ≤ most ∧ most ≤ 9223372036854775807)) (w : World) :
    Calls Try.prog 16 #[.string s, .int .i64 most] w (Splits s most w) := by
  obtain ⟨i0, hi0, hz0, hz1, hz2⟩ := info_parts info_string
  have HSZ := Lib.hid hs
  refine (callsIn_wide (n := 3)).1 ?_
  refine callsIn_of_wp_marks Try.func16 rfl trivial ?_ rfl
  simp only [Try.ntmps16, List.size_toArray, List.length_cons, List.length_nil, Nat.reduceAdd, Nat.reduceSub, Array.replicate_succ, Array.replicate_zero, List.push_toArray, List.append_toArray, List.nil_append, List.cons_append]
  refine wpIn_wide.2 ?_
  go_wp2_with fail
  have h2 := f_two_heap w (.cells #[.slice none 0 0] 33) (.cells #[.string s] 9)
  generalize (w.alloc (.cells #[.slice none 0 0] 33)).alloc (.cells #[.string s] 9) = w2 at *
  obtain ⟨h20, h21, z2, hk2, hg2⟩ := h2
  refine (frames_any s most _).mono ?_; rintro e w4 ⟨rfl, hw4⟩
  have h4 := f_two_heap w2 (.cells #[.string s] 9) (.cells #[.int .i64 most] 3)
  rw [← hw4] at h4
  clear hw4
  obtain ⟨h42, h43, z4, hk4, hg4⟩ := h4
  rw [z2] at h42 h43 z4 hk4 ⊢
  have start : SpAt s most w s w4 :=
    ⟨⟨[], .slice none 0 0, (hk4 _ (by omega)).trans h20, World.ownsRow_nil _ _ _ _, by simp, by simp⟩, rfl, (hk4 _ (by omega)).trans h21, ⟨h42, h43⟩, ((Below.refl w.heap.size w).grown (grown_trans hg2 hg4) (Nat.le_refl _) (fun r e => by cases e)), by omega⟩
  have HB4 : FBoxes (w.heap.size + 2) s most w4 := ⟨h42, h43⟩
  have ST := Lib.hid start
  clear start hk2 hk4 hg2 hg4 h20 h21
  go_wp2_with fail
  refine (wpIn_wide (n := 3)).1 ?_
  refine' rangeV (gf := 35) (lb := #[.pointer (some ⟨w.heap.size + 2, 0, none⟩), .pointer (some ⟨w.heap.size + 2 + 1, 0, none⟩)]) rfl (enters_of Try.func35 (by kernel_rfl) rfl)
    (frames_iter (w.heap.size + 2) s (by unfold maxLen; omega) most hm w4 HB4) (fun h k => h.trans k) ?ka ?kb (fun _ => rfl) (SpAt s most w) (fun _ _ _ => False) ?hI (fun _ _ _ _ _ h _ _ => h) ST.out _ ?assign ?body ?done ?stop
  case ka =>
    intro o1 o2 _ _
    have t := f_two_heap w4 o1 o2
    exact ⟨t.2.2.2.1 _ (by omega), t.2.2.2.1 _ (by omega)⟩
  case kb =>
    intro W l o o2 hl _ _
    exact ⟨f_putObj_other _ _ _ _ (by omega), f_putObj_other _ _ _ _ (by omega)⟩
  case hI =>
    intro x W W2 row h hg hr
    exact h.kept hg (fun r e => ⟨by have := (hr r e).1; omega, (hr r e).2⟩)
  case assign =>
    intro l x W K hK
    gi_wp2
    exact hK
  case body =>
    intro l t W hi hmr
    have hz : (Fr.get t most).2.2 = 0 := of_decide_eq_true hmr
    obtain ⟨acc, v, h1, h2, h3, h4⟩ := hi.ex
    have c0 : W.cell? ⟨w.heap.size, 0, none⟩ = some v := cell_of_row _ _ _ _ _ _ h1
    have hsz := hi.size
    have hend := fun v' W1 => sp_end (v' := v') (W1 := W1) (o := .cells #[.string (Fr.get t most).1] 9) hi hz h1 h2 h3 h4
    have HI := Lib.hid hi; have HEND := Lib.hid hend; have H1 := Lib.hid h1
    generalize hg1 : (Fr.get t most).1 = g1 at *
    generalize hg2 : (Fr.get t most).2.1 = g2 at *
    clear hi hz h1 h3 hmr hend hg1 hg2 ST h42 h43
    have hvb : ∀ k, v.ownBlock = some k → w.heap.size + 4 ≤ k := fun k hk => (h2.lt k hk).1
    have c0a : (W.alloc (.cells #[.string g1] 9)).cell? ⟨w.heap.size, 0, none⟩ = some v := (World.cell?_alloc_lt W _ _ (by show w.heap.size < _; omega)).trans c0
    have HVB := Lib.hid hvb; clear hvb
    have hl0 : W.heap[w.heap.size + 1]? = some (.cells #[.string t] 9 (0, 0)) := HI.out.left
    have HL0 := Lib.hid hl0; clear hl0
    have hfacts : ∀ (v' : Value) (w1 : World), w1.ownsRow (w.heap.size + 4) 9 1 v' (acc.length + 1) (acc.map Value.string ++ [.string g1]) → (W.alloc (.cells #[.string g1] 9)).grownBy w1 v.ownBlock →
        w1.cell? ⟨w.heap.size, 0, none⟩ = some v ∧ w1.frozen? ⟨w.heap.size, 0, none⟩ = false ∧ w1.cell? ⟨w.heap.size + 1, 0, none⟩ = some (.string t) ∧ w1.frozen? ⟨w.heap.size + 1, 0, none⟩ = false := fun v' w1 hown' hgrow => by
      have hlow1 : ∀ k, k < w.heap.size + 4 → w1.heap[k]? = W.heap[k]? := fun k hk => (hgrow.block k (by simp; omega) (fun e => by have := HVB.out k e.symm; omega)).trans (Below.heap_alloc W _ k (by omega))
      exact ⟨cell_of_row _ _ _ _ _ _ ((hlow1 _ (by omega)).trans H1.out), frozen_of_row _ _ _ _ _ ((hlow1 _ (by omega)).trans H1.out), cell_of_row _ _ _ _ _ _ ((hlow1 _ (by omega)).trans HL0.out), frozen_of_row _ _ _ _ _ ((hlow1 _ (by omega)).trans HL0.out)⟩
    have hb1 : acc.length + 1 ≤ maxLen := by have := HSZ.out; unfold maxLen; omega
    have hb2 : (acc.length + 1) * 16 ≤ 140737488355328 := by have := HSZ.out; omega
    have hb3 : w.heap.size + 4 ≤ (W.alloc (.cells #[.string g1] 9)).heap.size := by simp; omega
    have HFACTS := Lib.hid hfacts; have HB1 := Lib.hid hb1; have HB2 := Lib.hid hb2; have HB3 := Lib.hid hb3
    clear hfacts hb1 hb2 hb3
    gi_wp2_with (gi_at_builtin; (refine wpListIn_append_own _ rfl _ _ 33 rfl (w.heap.size + 4) 9 i0 (.string ByteArray.empty) 1 16 Try.underlying33 hi0 hz0 hz1 hz2 rfl (by decide) _ _ _ rfl (h2.alloc _) ⟨W.heap.size, 0, none⟩ 1 1 [.string g1] rfl rfl (cell_one_new _ _ _) (by simp [Value.oneCell']) HB1.out HB2.out HB3.out ?_); intro v' w1 hown' hgrow _; obtain ⟨g', cap', rfl⟩ := ownsRow_succ hown'; obtain ⟨e0, f0, e1, f1⟩ := HFACTS.out _ w1 hown' hgrow; have HFIN := Lib.hid (HEND.out _ w1 hown' hgrow); clear hown' hgrow)
    obtain ⟨z1, z2, z3⟩ := HFIN.out
    rw [z4]
    exact ⟨z1, z2, z3⟩
  case done =>
    intro D t W hD hmr hi hK
    have hz : (Fr.get t most).2.2 ≠ 0 := of_decide_eq_false hmr
    have han := Fr.all_none t most hz
    obtain ⟨acc, v, h1, h2, h3, h4⟩ := hi.ex
    have hr := hi.rest
    rw [han] at hr h3
    simp only [List.append_nil] at h3
    have c0 : W.cell? ⟨w.heap.size, 0, none⟩ = some v := cell_of_row _ _ _ _ _ _ h1
    have c1 : W.cell? ⟨w.heap.size + 1, 0, none⟩ = some (.string t) := cell_of_row _ _ _ _ _ _ hi.left
    have hsz := hi.size
    have hts : t.size ≤ s.size := by omega
    have hw1 : IntKind.i64.wrap ((s.size : Int) - (t.size : Int)) = (s.size : Int) - (t.size : Int) := IntWalk.i64_in _ (by omega)
    have hgt := fun W => Get_any t (by unfold maxLen; omega) most hm W
    have hsh := Fr.get_shape t most
    have hkept := fun (W2 : World) (hb : Below W.heap.size W W2) => hi.kept (grown_of_below (row := none) hb) (fun r e => by cases e)
    have HI := Lib.hid hi; have HK := Lib.hid hK; have H3 := Lib.hid h3; have HR := Lib.hid hr; have H2 := Lib.hid h2; have HGT := Lib.hid hgt; have HKP := Lib.hid hkept
    clear hi hK h3 hr h2 h1 hgt hmr han ST hkept
    by_cases ht : t = ByteArray.empty
    · have hb : t.toList.isEmpty = true := by rw [ht, ByteArray.toList_eq]; rfl
      have HT := Lib.hid ht; clear ht
      go_wp2_with fail
      refine ⟨by simp, .inl ⟨_, _, rfl, run_takeDeferred HK.out, ?_⟩⟩
      have hk := HI.out.kept (grownBy_putObj' W D (.deferred none)) (fun r e => by cases e; exact ⟨by omega, _, HK.out, rfl⟩)
      have hown := H2.out.kept (grownBy_putObj' W D (.deferred none)) (by cases hv : v.ownBlock with
        | none => exact .inl rfl
        | some k => exact .inr (fun e => by cases e; have := own_cells H2.out hv HK.out; cases this))
      refine ⟨.tuple #[v, .int .i64 ((s.size : Int) - (t.size : Int)), .int .i64 0], by simp [results, Try.results16, go_sem], v, ?_, by rw [H3.out]; exact own_from hown (by omega), hk.bel⟩
      rw [HR.out]
      have : Fr.shape t most = 0 := by unfold Fr.shape; rw [if_pos HT.out]
      rw [this]
      rw [show ((s.size : Int) - (t.size : Int)) = ((s.size - t.size : Nat) : Int) from by omega]
      rfl
    · have hb : t.toList.isEmpty = false := by cases h : t.toList.isEmpty with
        | false => rfl
        | true => exact absurd (str_empty t h) ht
      have HT := Lib.hid ht; clear ht
      go_wp2_with fail
      refine (HGT.out _).mono ?_; rintro e w5 ⟨rfl, hb5⟩
      have HI5 := Lib.hid (HKP.out _ hb5)
      have HK5 := Lib.hid (heap_keep HK.out hb5)
      have HO5 := Lib.hid (H2.out.kept (grown_of_below (row := none) hb5) (by cases v.ownBlock <;> simp))
      have e0 : w5.cell? ⟨w.heap.size, 0, none⟩ = some v := cell_keep c0 hb5
      clear hb5 c0 c1
      generalize hshp : (Fr.get t most).2.2 = sh at *
      have HSHP := Lib.hid hshp; clear hshp
      go_wp2_with fail
      refine ⟨by simp, .inl ⟨_, _, rfl, run_takeDeferred HK5.out, ?_⟩⟩
      have hk := HI5.out.kept (grownBy_putObj' w5 D (.deferred none)) (fun r e => by cases e; exact ⟨by omega, _, HK5.out, rfl⟩)
      have hown := HO5.out.kept (grownBy_putObj' w5 D (.deferred none)) (by cases hv : v.ownBlock with
        | none => exact .inl rfl
        | some k => exact .inr (fun e => by cases e; have := own_cells HO5.out hv HK5.out; cases this))
      refine ⟨.tuple #[v, .int .i64 ((s.size : Int) - (t.size : Int)), .int .i64 sh], by simp [results, Try.results16, go_sem], v, ?_, by rw [H3.out]; exact own_from hown (by omega), hk.bel⟩
      rw [HR.out]
      have : Fr.shape t most = sh := by unfold Fr.shape; rw [if_neg HT.out, HSHP.out]
      rw [this]
      rw [show ((s.size : Int) - (t.size : Int)) = ((s.size - t.size : Nat) : Int) from by omega]
  case stop =>
    intro D c x W _ h _
    exact h.elim
end Go.Proofs.Yteohhcnadoaciaa
