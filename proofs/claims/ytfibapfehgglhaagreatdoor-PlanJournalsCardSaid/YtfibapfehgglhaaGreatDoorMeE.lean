import Derived.Test.YtfibapfehgglhaaGreatDoorMeD
/-
  What read of package meta comes to.
-/
namespace Go.Proofs.YtfibapfehgglhaaGreatDoor
open Go.RowKit

set_option maxRecDepth 100000 in
set_option maxHeartbeats 4000000 in
theorem mread_any (s : ByteArray) (hs : s.size ≤ 1000000) (gen : Int) (w : World) :
    Calls Tryz.prog 68 #[.string s, .int .i64 gen] w fun e w' => ∃ A c, e = .returned ((Me.read s gen).val A c) ∧ Ints w' A c (Me.read s gen).bs ∧ (∀ ad, A = some ad → w.heap.size ≤ ad.block) ∧ Below w.heap.size w w' := by
  have hh3 : RHeld w w.heap.size (w.heap.size + 1) (w.heap.size + 1 + 1) gen (s, false) (((w.alloc (.cells #[.int .i64 gen] 3)).alloc (.cells #[.int .i64 0, .int .i64 0, .int .i64 0, .slice none 0 0] 54)).alloc (.cells #[.string s, .bool false] 190)) := by
    have b1 : Below w.heap.size w (w.alloc (.cells #[.int .i64 gen] 3)) := (Below.refl _ w).alloc (Nat.le_refl _) _
    have z1 : (w.alloc (.cells #[.int .i64 gen] 3)).heap.size = w.heap.size + 1 := by simp
    have r1 : RowIs (w.alloc (.cells #[.int .i64 gen] 3)) w.heap.size (.cells #[.int .i64 gen] 3) := RowIs.one _ _
    generalize w.alloc (.cells #[.int .i64 gen] 3) = w1 at *
    have b2 : Below w1.heap.size w1 (w1.alloc (.cells #[.int .i64 0, .int .i64 0, .int .i64 0, .slice none 0 0] 54)) := (Below.refl _ w1).alloc (Nat.le_refl _) _
    have r2 : RowIs (w1.alloc (.cells #[.int .i64 0, .int .i64 0, .int .i64 0, .slice none 0 0] 54)) w1.heap.size (.cells #[.int .i64 0, .int .i64 0, .int .i64 0, .slice none 0 0] 54) := RowIs.one _ _
    have z2 : (w1.alloc (.cells #[.int .i64 0, .int .i64 0, .int .i64 0, .slice none 0 0] 54)).heap.size = w1.heap.size + 1 := by simp
    generalize w1.alloc (.cells #[.int .i64 0, .int .i64 0, .int .i64 0, .slice none 0 0] 54) = w2 at *
    have b3 : Below w2.heap.size w2 (w2.alloc (.cells #[.string s, .bool false] 190)) := (Below.refl _ w2).alloc (Nat.le_refl _) _
    have r3 : RowIs (w2.alloc (.cells #[.string s, .bool false] 190)) w2.heap.size (.cells #[.string s, .bool false] 190) := RowIs.one _ _
    rw [z2, z1] at r3
    rw [z1] at r2
    exact ⟨(r1.keep b2).keep b3, r2.keep b3, r3, below_step (below_step b1 b2) b3⟩
  have hhs : (((w.alloc (.cells #[.int .i64 gen] 3)).alloc (.cells #[.int .i64 0, .int .i64 0, .int .i64 0, .slice none 0 0] 54)).alloc (.cells #[.string s, .bool false] 190)).heap.size = w.heap.size + 3 := by simp
  have hread : Me.read s gen = { gen := gen, next := wrap64 ((Me.adv gen (s, false)).1 : Nat), wal := if gen = 3 then wrap64 (wrap64 ((Me.adv gen (s, false)).1 : Nat) - wrap64 ((Me.adv gen (Me.adv gen (s, false)).2).1 : Nat)) else wrap64 ((Me.adv gen (Me.adv gen (s, false)).2).1 : Nat), bs := Me.rest gen 41 (wrap64 ((Me.adv gen (Me.adv gen (Me.adv gen (s, false)).2).2).1 : Nat)) [] 0 (Me.adv gen (Me.adv gen (Me.adv gen (s, false)).2).2).2 } := rfl
  have hs1 := Me.adv_size gen (s, false)
  have hs2 := Me.adv_size gen (Me.adv gen (s, false)).2
  have hn1 : ∀ W, W.cell? ⟨w.heap.size, 0, none⟩ = some (.int .i64 gen) → CurAt (w.heap.size + 1 + 1) s false W → Calls Tryz.prog 114 #[.pointer (some ⟨w.heap.size, 0, none⟩), .pointer (some ⟨w.heap.size + 1 + 1, 0, none⟩)] W fun e w' => e = .returned (.int .i64 (wrap64 ((Me.adv gen (s, false)).1 : Nat))) ∧ CurAt (w.heap.size + 1 + 1) (Me.adv gen (s, false)).2.1 (Me.adv gen (s, false)).2.2 w' ∧ W.grownBy w' (some (w.heap.size + 1 + 1)) :=
    fun W h1 h2 => Next_any _ _ gen (s, false) (by unfold maxLen; simp; omega) W h1 h2
  have hn2 : ∀ W, W.cell? ⟨w.heap.size, 0, none⟩ = some (.int .i64 gen) → CurAt (w.heap.size + 1 + 1) (Me.adv gen (s, false)).2.1 (Me.adv gen (s, false)).2.2 W → Calls Tryz.prog 114 #[.pointer (some ⟨w.heap.size, 0, none⟩), .pointer (some ⟨w.heap.size + 1 + 1, 0, none⟩)] W fun e w' => e = .returned (.int .i64 (wrap64 ((Me.adv gen (Me.adv gen (s, false)).2).1 : Nat))) ∧ CurAt (w.heap.size + 1 + 1) (Me.adv gen (Me.adv gen (s, false)).2).2.1 (Me.adv gen (Me.adv gen (s, false)).2).2.2 w' ∧ W.grownBy w' (some (w.heap.size + 1 + 1)) :=
    fun W h1 h2 => Next_any _ _ gen (Me.adv gen (s, false)).2 (by unfold maxLen; simp at hs1; omega) W h1 h2
  have hc2z : (Me.adv gen (Me.adv gen (s, false)).2).2.1.size ≤ 1000000 := by simp at hs1; omega
  generalize wrap64 ((Me.adv gen (s, false)).1 : Nat) = v1 at *
  generalize wrap64 ((Me.adv gen (Me.adv gen (s, false)).2).1 : Nat) = v2 at *
  generalize (Me.adv gen (Me.adv gen (s, false)).2).2 = c2 at *
  generalize (Me.adv gen (s, false)).2 = c1 at *
  have HREAD := Lib.hid hread
  have HH := Lib.hid hh3; have HN1 := Lib.hid hn1; have HN2 := Lib.hid hn2
  clear hh3 hread hs1 hs2 hn1 hn2
  have HHS := Lib.hid hhs; clear hhs
  go_enter Tryz.func68, Tryz.ntmps68
  go_upto_region 3 with fail
  have hhs := HHS.out; clear HHS
  generalize ((w.alloc (.cells #[.int .i64 gen] 3)).alloc (.cells #[.int .i64 0, .int .i64 0, .int .i64 0, .slice none 0 0] 54)).alloc (.cells #[.string s, .bool false] 190) = w3 at *
  have hne1 : w.heap.size ≠ w.heap.size + 1 + 1 := by omega
  have hne2 : w.heap.size + 1 ≠ w.heap.size + 1 + 1 := by omega
  have hlow : w.heap.size ≤ w.heap.size + 1 + 1 := by omega
  go_cut [7] (fun s7 wx => ∃ gy : Nat, s7 = .pointer (some ⟨gy, 0, none⟩) ∧ w.heap.size + 3 ≤ gy ∧ RowIs wx gy (.cells #[.int .i64 gen, .int .i64 v1, .int .i64 v2, .slice none 0 0] 54) ∧ RHeld w w.heap.size (w.heap.size + 1) (w.heap.size + 1 + 1) gen c2 wx)
  case first =>
    refine plain_held (fun U => U.cell? ⟨w.heap.size, 0, none⟩ = some (.int .i64 gen)) (by kernel_rfl) ?_
    have HHd := Lib.hid HH.out.drew
    have hS := HHd.out.cell
    generalize w3.drew = wd at *
    refine wpAnyH_pickQ (by kernel_rfl) Only.panic Only.keepsIn (w := wd) hS [0, 1, 3] 5 _ _ (by kernel_rfl) ?_
    refine PickQ.value (d := some 14) (.int .i64 gen) rfl rfl (by kernel_rfl) (fun U hU => (by go_simp)) ?_
    refine PickQ.value (d := some 15) (.func (.func 114) #[] #[.pointer (some ⟨w.heap.size, 0, none⟩), .pointer (some ⟨w.heap.size + 1 + 1, 0, none⟩)]) rfl rfl (by kernel_rfl) (fun U hU => (by go_simp)) ?_
    refine PickQ.value (d := some 17) (.func (.func 114) #[] #[.pointer (some ⟨w.heap.size, 0, none⟩), .pointer (some ⟨w.heap.size + 1 + 1, 0, none⟩)]) rfl rfl (by kernel_rfl) (fun U hU => (by go_simp)) ?_
    simp only [PickQ, Act.put, List.setIfInBounds_toArray]
    refine wpAnyH_two (i := 2) (j := 6) (by kernel_rfl) rfl rfl (by kernel_rfl) (by kernel_rfl) ?_ ?_
    · intro K hK
      unfold Oper.wp
      go_simp
      refine (HN1.out wd HHd.out.cell HHd.out.cur).mono ?_; rintro e w5 ⟨rfl, hc5, hg5⟩
      have HH5 := Lib.hid (HHd.out.next hne1 hne2 hlow hc5 hg5)
      refine hK _ _ HH5.out.cell (fun hS5 => ?_)
      clear hK K hc5 hg5
      refine wpAnyH_two (i := 4) (j := 6) (by kernel_rfl) rfl rfl (by kernel_rfl) (by kernel_rfl) ?_ ?_
      · intro K hK
        unfold Oper.wp
        go_simp
        refine (HN2.out w5 HH5.out.cell HH5.out.cur).mono ?_; rintro e w6 ⟨rfl, hc6, hg6⟩
        have HH6 := Lib.hid (HH5.out.next hne1 hne2 hlow hc6 hg6)
        refine hK _ _ HH6.out.cell (fun hS6 => ?_)
        clear hK K hc6 hg6
        refine wpAnyH_pick (by kernel_rfl) Only.panic (w := w6) hS6 [5] 2 _ _ (by kernel_rfl) ?_
        refine PickOk.value (v := .agg #[.int .i64 gen, .int .i64 v1, .int .i64 v2, .slice none 0 0]) rfl rfl (by kernel_rfl) (fun U hU => (by go_simp)) ?_
        simp only [PickOk, Act.put, List.setIfInBounds_toArray]
        refine wpAnyH_one (i := 6) (by kernel_rfl) rfl (by kernel_rfl) ?_
        intro K hK
        unfold Oper.wp
        go_simp
        have HQ7 : Hid (RowIs (w6.alloc (.cells #[.int .i64 0, .int .i64 0, .int .i64 0, .slice none 0 0] 54)) w6.heap.size (.cells #[.int .i64 0, .int .i64 0, .int .i64 0, .slice none 0 0] 54)) := Lib.hid (RowIs.one _ _)
        have HH7 := Lib.hid (HH6.out.later ((Below.refl _ w6).alloc (Nat.le_refl _) (.cells #[.int .i64 0, .int .i64 0, .int .i64 0, .slice none 0 0] 54)))
        refine hK _ _ HH7.out.cell (fun hS7 => ?_)
        clear hK K
        have hgy : w.heap.size + 3 ≤ w6.heap.size := by have := HH6.out.lt.2.2; omega
        generalize w6.alloc (.cells #[.int .i64 0, .int .i64 0, .int .i64 0, .slice none 0 0] 54) = w7 at *
        generalize w6.heap.size = gy at *
        refine wpAnyH_one (i := 7) (by kernel_rfl) rfl (by kernel_rfl) ?_
        intro K hK
        obtain ⟨⟨y0, y1, y2, y3⟩, ⟨f0, f1, f2, f3⟩⟩ := meta_cells HQ7.out
        have HEND := Lib.hid (HH7.out.grown (grown_four w7 gy (.int .i64 gen) (.int .i64 v1) (.int .i64 v2) (.slice none 0 0)) (by simp; omega) (by simp; omega) (by simp; omega) (fun r e => by cases e; omega))
        have HYEND := Lib.hid (meta_four HQ7.out (.int .i64 gen) (.int .i64 v1) (.int .i64 v2) (.slice none 0 0))
        unfold Oper.wp
        go_simp
        refine hK _ _ HEND.out.cell (fun _ => ?_)
        clear hK K
        refine wpAnyH_done (by kernel_rfl) ?_ _
        refine Only.next ?_
        go_wp2_with fail
        go_meet
        exact ⟨gy, rfl, hgy, HYEND.out, HEND.out⟩
      · intro K hK
        unfold Oper.wp
        go_simp
        have HQ8 : Hid (RowIs (w5.alloc (.cells #[.int .i64 0, .int .i64 0, .int .i64 0, .slice none 0 0] 54)) w5.heap.size (.cells #[.int .i64 0, .int .i64 0, .int .i64 0, .slice none 0 0] 54)) := Lib.hid (RowIs.one _ _)
        have HH8 := Lib.hid (HH5.out.later ((Below.refl _ w5).alloc (Nat.le_refl _) (.cells #[.int .i64 0, .int .i64 0, .int .i64 0, .slice none 0 0] 54)))
        refine hK _ _ HH8.out.cell (fun hS8 => ?_)
        clear hK K
        have hgy : w.heap.size + 3 ≤ w5.heap.size := by have := HH5.out.lt.2.2; omega
        generalize w5.alloc (.cells #[.int .i64 0, .int .i64 0, .int .i64 0, .slice none 0 0] 54) = w8 at *
        generalize w5.heap.size = gy at *
        refine wpAnyH_one (i := 4) (by kernel_rfl) rfl (by kernel_rfl) ?_
        intro K hK
        unfold Oper.wp
        go_simp
        refine (HN2.out w8 HH8.out.cell HH8.out.cur).mono ?_; rintro e w9 ⟨rfl, hc9, hg9⟩
        have HH9 := Lib.hid (HH8.out.next hne1 hne2 hlow hc9 hg9)
        have HQ9 : Hid (RowIs w9 gy (.cells #[.int .i64 0, .int .i64 0, .int .i64 0, .slice none 0 0] 54)) := Lib.hid ((hg9.block gy (Array.getElem?_eq_some_iff.1 HQ8.out).1 (by simp; omega)).trans HQ8.out)
        refine hK _ _ HH9.out.cell (fun hS9 => ?_)
        clear hK K hc9 hg9
        refine wpAnyH_pick (by kernel_rfl) Only.panic (w := w9) hS9 [5] 1 _ _ (by kernel_rfl) ?_
        refine PickOk.value (v := .agg #[.int .i64 gen, .int .i64 v1, .int .i64 v2, .slice none 0 0]) rfl rfl (by kernel_rfl) (fun U hU => (by go_simp)) ?_
        simp only [PickOk, Act.put, List.setIfInBounds_toArray]
        refine wpAnyH_one (i := 7) (by kernel_rfl) rfl (by kernel_rfl) ?_
        intro K hK
        obtain ⟨⟨y0, y1, y2, y3⟩, ⟨f0, f1, f2, f3⟩⟩ := meta_cells HQ9.out
        have HEND := Lib.hid (HH9.out.grown (grown_four w9 gy (.int .i64 gen) (.int .i64 v1) (.int .i64 v2) (.slice none 0 0)) (by simp; omega) (by simp; omega) (by simp; omega) (fun r e => by cases e; omega))
        have HYEND := Lib.hid (meta_four HQ9.out (.int .i64 gen) (.int .i64 v1) (.int .i64 v2) (.slice none 0 0))
        unfold Oper.wp
        go_simp
        refine hK _ _ HEND.out.cell (fun _ => ?_)
        clear hK K
        refine wpAnyH_done (by kernel_rfl) ?_ _
        refine Only.next ?_
        go_wp2_with fail
        go_meet
        exact ⟨gy, rfl, hgy, HYEND.out, HEND.out⟩
    · intro K hK
      unfold Oper.wp
      go_simp
      have HQ10 : Hid (RowIs (wd.alloc (.cells #[.int .i64 0, .int .i64 0, .int .i64 0, .slice none 0 0] 54)) wd.heap.size (.cells #[.int .i64 0, .int .i64 0, .int .i64 0, .slice none 0 0] 54)) := Lib.hid (RowIs.one _ _)
      have HH10 := Lib.hid (HHd.out.later ((Below.refl _ wd).alloc (Nat.le_refl _) (.cells #[.int .i64 0, .int .i64 0, .int .i64 0, .slice none 0 0] 54)))
      refine hK _ _ HH10.out.cell (fun hS10 => ?_)
      clear hK K
      have hgy : w.heap.size + 3 ≤ wd.heap.size := by have := HHd.out.lt.2.2; omega
      generalize wd.alloc (.cells #[.int .i64 0, .int .i64 0, .int .i64 0, .slice none 0 0] 54) = w10 at *
      generalize wd.heap.size = gy at *
      refine wpAnyH_one (i := 2) (by kernel_rfl) rfl (by kernel_rfl) ?_
      intro K hK
      unfold Oper.wp
      go_simp
      refine (HN1.out w10 HH10.out.cell HH10.out.cur).mono ?_; rintro e w11 ⟨rfl, hc11, hg11⟩
      have HH11 := Lib.hid (HH10.out.next hne1 hne2 hlow hc11 hg11)
      have HQ11 : Hid (RowIs w11 gy (.cells #[.int .i64 0, .int .i64 0, .int .i64 0, .slice none 0 0] 54)) := Lib.hid ((hg11.block gy (Array.getElem?_eq_some_iff.1 HQ10.out).1 (by simp; omega)).trans HQ10.out)
      refine hK _ _ HH11.out.cell (fun hS11 => ?_)
      clear hK K hc11 hg11
      refine wpAnyH_one (i := 4) (by kernel_rfl) rfl (by kernel_rfl) ?_
      intro K hK
      unfold Oper.wp
      go_simp
      refine (HN2.out w11 HH11.out.cell HH11.out.cur).mono ?_; rintro e w12 ⟨rfl, hc12, hg12⟩
      have HH12 := Lib.hid (HH11.out.next hne1 hne2 hlow hc12 hg12)
      have HQ12 : Hid (RowIs w12 gy (.cells #[.int .i64 0, .int .i64 0, .int .i64 0, .slice none 0 0] 54)) := Lib.hid ((hg12.block gy (Array.getElem?_eq_some_iff.1 HQ11.out).1 (by simp; omega)).trans HQ11.out)
      refine hK _ _ HH12.out.cell (fun hS12 => ?_)
      clear hK K hc12 hg12
      refine wpAnyH_pick (by kernel_rfl) Only.panic (w := w12) hS12 [5] 1 _ _ (by kernel_rfl) ?_
      refine PickOk.value (v := .agg #[.int .i64 gen, .int .i64 v1, .int .i64 v2, .slice none 0 0]) rfl rfl (by kernel_rfl) (fun U hU => (by go_simp)) ?_
      simp only [PickOk, Act.put, List.setIfInBounds_toArray]
      refine wpAnyH_one (i := 7) (by kernel_rfl) rfl (by kernel_rfl) ?_
      intro K hK
      obtain ⟨⟨y0, y1, y2, y3⟩, ⟨f0, f1, f2, f3⟩⟩ := meta_cells HQ12.out
      have HEND := Lib.hid (HH12.out.grown (grown_four w12 gy (.int .i64 gen) (.int .i64 v1) (.int .i64 v2) (.slice none 0 0)) (by simp; omega) (by simp; omega) (by simp; omega) (fun r e => by cases e; omega))
      have HYEND := Lib.hid (meta_four HQ12.out (.int .i64 gen) (.int .i64 v1) (.int .i64 v2) (.slice none 0 0))
      unfold Oper.wp
      go_simp
      refine hK _ _ HEND.out.cell (fun _ => ?_)
      clear hK K
      refine wpAnyH_done (by kernel_rfl) ?_ _
      refine Only.next ?_
      go_wp2_with fail
      go_meet
      exact ⟨gy, rfl, hgy, HYEND.out, HEND.out⟩
  case rest =>
    obtain ⟨gy, rfl, hgy, hrow, hh⟩ := hcut
    obtain ⟨⟨y0, y1, y2, y3⟩, ⟨f0, f1, f2, f3⟩⟩ := meta_cells hrow
    have g0 := hh.cell
    have HR := Lib.hid hrow; have HH2 := Lib.hid hh
    clear hrow hh HH HN1 HN2 hhs
    have hlt2 := HH2.out.lt
    obtain ⟨w2, hw2⟩ : ∃ w2, (if gen = 3 then wrap64 (v1 - v2) else v2) = w2 := ⟨_, rfl⟩
    have HW2 := Lib.hid hw2
    have hread := HREAD.out
    rw [hw2] at hread
    clear hw2 HREAD
    have HREAD := Lib.hid hread; clear hread
    go_upto_if 21 with fail
    go_cut [7] (fun s7 wx => s7 = .pointer (some ⟨gy, 0, none⟩) ∧ RowIs wx gy (.cells #[.int .i64 gen, .int .i64 v1, .int .i64 w2, .slice none 0 0] 54) ∧ RHeld w w.heap.size (w.heap.size + 1) (w.heap.size + 1 + 1) gen c2 wx)
    case first =>
      by_cases h3 : gen = 3
      · have g3 : (gen == 3) = true := by simpa using h3
        have hw2 := HW2.out
        rw [if_pos h3] at hw2
        have HS := Lib.hid (heap_setCell_same wc gy 2 _ _ (.int .i64 w2) HR.out)
        have HX := Lib.hid (HH2.out.grown (grown_setCell wc gy 2 (.int .i64 w2)) (by simp; omega) (by simp; omega) (by simp; omega) (fun r e => by cases e; omega))
        clear h3
        go_wp2_with fail
        go_meet
        exact ⟨rfl, HS.out, HX.out⟩
      · have g3 : (gen == 3) = false := by simpa using h3
        have hw2 := HW2.out
        rw [if_neg h3] at hw2
        subst hw2
        clear h3
        go_wp2_with fail
        go_meet
        exact ⟨rfl, HR.out, HH2.out⟩
    case rest =>
      obtain ⟨rfl, hrow, hh⟩ := hcut
      have HR4 := Lib.hid hrow; have HH4 := Lib.hid hh
      have hs3 := Me.adv_size gen c2
      have hn3 := Next_any w.heap.size (w.heap.size + 1 + 1) gen c2 (by unfold maxLen; omega) _ hh.cell hh.cur
      have HN3 := Lib.hid hn3
      clear hrow hh hn3 HR HH2 y0 y1 y2 y3 f0 f1 f2 f3 g0 HW2
      go_wp2_with fail
      refine HN3.out.mono ?_; rintro e w5 ⟨rfl, hc5, hg5⟩
      have HH5 := Lib.hid (HH4.out.next hne1 hne2 hlow hc5 hg5)
      have HR5 : Hid (RowIs w5 gy (.cells #[.int .i64 gen, .int .i64 v1, .int .i64 w2, .slice none 0 0] 54)) := Lib.hid ((hg5.block gy (Array.getElem?_eq_some_iff.1 HR4.out).1 (by simp; omega)).trans HR4.out)
      have hgl : gy < w5.heap.size := (Array.getElem?_eq_some_iff.1 HR5.out).1
      have hc3z : (Me.adv gen c2).2.1.size ≤ 1000000 := by omega
      clear hc5 hg5 HN3 HH4 HR4 hs3
      have hread := HREAD.out
      generalize hR : Me.rest gen 41 (wrap64 ((Me.adv gen c2).1 : Nat)) [] 0 (Me.adv gen c2).2 = R at *
      have hv3 : -9223372036854775808 ≤ wrap64 ((Me.adv gen c2).1 : Nat) ∧ wrap64 ((Me.adv gen c2).1 : Nat) ≤ 9223372036854775807 := w64_bd _
      generalize wrap64 ((Me.adv gen c2).1 : Nat) = v3 at *
      generalize (Me.adv gen c2).2 = c3 at *
      clear HREAD
      have HREAD := Lib.hid hread; have HRR := Lib.hid hR
      clear hread hR
      go_wp2_with fail
      go_loopw [8, 9, 10] (fun v8 v9 _ wr => ∃ (L : List Int) (A : Option Addr) (cp : Nat) (l n : Int) (cu : ByteArray × Bool), v8 = .int .i64 l ∧ v9 = .int .i64 n ∧ L.length ≤ 40 ∧ Me.rest gen (41 - L.length) n L l cu = R ∧
        RowIs wr gy (.cells #[.int .i64 gen, .int .i64 v1, .int .i64 w2, .slice A L.length cp] 54) ∧ wr.ownsRow (gy + 1) 3 1 (.slice A L.length cp) L.length (ivals L) ∧ RHeld w w.heap.size (w.heap.size + 1) (w.heap.size + 1 + 1) gen cu wr ∧
        (-9223372036854775808 ≤ n ∧ n ≤ 9223372036854775807) ∧ cu.1.size ≤ 1000000) (fun _ v9 _ _ => (intOf v9).toNat)
      case atStart => exact ⟨[], none, 0, 0, v3, c3, rfl, rfl, by simp, HRR.out, HR5.out, World.ownsRow_nil _ _ _ _, HH5.out, hv3, hc3z⟩
      case round =>
        obtain ⟨L, A, cp, l, n, cu, rfl, rfl, hL, hrest, hrow, hown, hh, hnb, hcz⟩ := hrel
        obtain ⟨⟨y0, y1, y2, y3⟩, ⟨f0, f1, f2, f3⟩⟩ := meta_cells hrow
        have b1 : wr.cell? ⟨w.heap.size + 1 + 1, 1, none⟩ = some (.bool cu.2) := (hh.cur.cells).2.1
        have g0 := hh.cell
        have HRO := Lib.hid hrow; have HOW := Lib.hid hown; have HH6 := Lib.hid hh; have HRE := Lib.hid hrest; have HCZ := Lib.hid hcz
        have hgl6 : gy < wr.heap.size := (Array.getElem?_eq_some_iff.1 hrow).1
        clear hrow hown hh hrest hcz
        have hN : IntKind.i64.wrap (n - 1) = n - 1 ∨ ¬ 0 < n := by
          by_cases h : 0 < n
          · exact .inl (IntWalk.i64_in _ (by omega))
          · exact .inr h
        by_cases hgo : 0 < n ∧ L.length < 40 ∧ cu.2 = false
        · obtain ⟨hn, h40, hb⟩ := hgo
          have d1 : decide (0 < n) = true := by simpa using hn
          have d2 : decide ((L.length : Int) < 40) = true := by simp; omega
          have e41 : 41 - L.length = (40 - L.length) + 1 := by omega
          have hre := HRE.out
          rw [e41, Me.rest, if_neg (by rw [hb]; simp; omega)] at hre
          have hs7 := Me.adv_size gen cu
          have hcz := HCZ.out
          have hnx := Next_any w.heap.size (w.heap.size + 1 + 1) gen cu (by unfold maxLen; omega) wr HH6.out.cell HH6.out.cur
          have hav := Me.adv_lt gen cu
          rw [hb] at b1
          have hc7z : (Me.adv gen cu).2.1.size ≤ 1000000 := by omega
          have hww : IntKind.u64.wrap (wrap64 ((Me.adv gen cu).1 : Nat)) = ((Me.adv gen cu).1 : Nat) := u64_w64 _ hav
          simp only at hre
          generalize (Me.adv gen cu).1 = a at *
          generalize (Me.adv gen cu).2 = c7 at *
          have HRE2 := Lib.hid hre; have HNX := Lib.hid hnx
          clear hre hnx hb hs7 hcz e41 HRE HCZ hN
          go_wp2_with fail
          refine HNX.out.mono ?_; rintro e w7 ⟨rfl, hc7, hg7⟩
          have HH7 := Lib.hid (HH6.out.next hne1 hne2 hlow hc7 hg7)
          have HR7 : Hid (RowIs w7 gy (.cells #[.int .i64 gen, .int .i64 v1, .int .i64 w2, .slice A L.length cp] 54)) := Lib.hid ((hg7.block gy hgl6 (by simp; omega)).trans HRO.out)
          have HO7 : Hid (w7.ownsRow (gy + 1) 3 1 (.slice A L.length cp) L.length (ivals L)) := Lib.hid (own_same2 HOW.out (fun g hg => hg7.block g (HOW.out.lt g hg).2 (by have := (HOW.out.lt g hg).1; simp; omega)))
          have hgl7 : gy < w7.heap.size := (Array.getElem?_eq_some_iff.1 HR7.out).1
          clear hc7 hg7 HNX HH6 HRO HOW y0 y1 y2 y3 f0 f1 f2 f3 g0 b1 hgl6
          obtain ⟨⟨y0, y1, y2, y3⟩, ⟨f0, f1, f2, f3⟩⟩ := meta_cells HR7.out
          have g0 := HH7.out.cell
          obtain ⟨x, hx⟩ : ∃ x, (if gen = 3 then wrap64 (l + wrap64 (Num.zag a)) else wrap64 (a : Int)) = x := ⟨_, rfl⟩
          have hre := HRE2.out
          rw [hx] at hre
          have HX := Lib.hid hx; have HRE3 := Lib.hid hre
          clear hre hx HRE2
          go_upto_if 48 with fail
          go_cut [10] (fun v10 wx => v10 = .int .i64 x ∧ w7 = wx)
          case first =>
            have hzg := Num.zag_bd a hav
            have hx := HX.out
            have hz2 : wrap64 (Num.zag a) = Num.zag a := IntWalk.wrap64_in _ ⟨by omega, by omega⟩
            by_cases h3 : gen = 3
            · have g3 : (gen == 3) = true := by simpa using h3
              rw [if_pos h3, hz2] at hx
              have HZ := Lib.hid (Zag_any a (Lib.hid hav))
              generalize Num.zag a = z at *
              clear h3 hz2
              go_wp2_with fail
              refine (HZ.out _).mono ?_; rintro e w8 ⟨rfl, rfl⟩
              go_wp2_with fail
              go_meet
              exact ⟨by rw [hx], rfl⟩
            · have g3 : (gen == 3) = false := by simpa using h3
              rw [if_neg h3] at hx
              clear h3 hz2 hzg
              go_wp2_with fail
              go_meet
              exact ⟨by rw [hx], rfl⟩
          case rest =>
            obtain ⟨rfl, rfl⟩ := hcut
            have hal : Below w7.heap.size w7 (w7.alloc (.cells #[.int .i64 x] 3)) := (Below.refl _ w7).alloc (Nat.le_refl _) _
            have HRA := Lib.hid (HR7.out.keep hal)
            have HHA := Lib.hid (HH7.out.later hal)
            have HOA := Lib.hid (HO7.out.alloc (.cells #[.int .i64 x] 3))
            have HMK := Lib.hid (ints_made w7 x)
            have hza : gy < (w7.alloc (.cells #[.int .i64 x] 3)).heap.size := by simp; omega
            have hll : (L ++ [x]).length = L.length + 1 := by simp
            have HLL := Lib.hid hll
            have hwn : wrap64 (n - 1) = n - 1 := IntWalk.wrap64_in _ ⟨by omega, by omega⟩
            clear hal hll y0 y1 y2 f0 f1 f2
            have A3 : (w7.alloc (.cells #[.int .i64 x] 3)).cell? ⟨gy, 3, none⟩ = some (.slice A L.length cp) := (meta_cells HRA.out).1.2.2.2
            go_wp2_with (at_builtin; (refine wpList_append_ints _ rfl (.tmp 55) (.tmp 57) rfl (gy + 1) (.slice A L.length cp) L.length L rfl HOA.out (some ⟨w7.heap.size, 0, none⟩) 1 [x] 1 rfl rfl HMK.out (L.length + 1) rfl (by omega) (by omega) ?_); intro v8 w8 hown8 hg8; obtain ⟨-, A8, c8, rfl, hI8⟩ := own_irow hown8; have hr8 := (hg8.block gy hza (fun e => by have := (HOA.out.lt gy e.symm).1; omega)).trans HRA.out; have HR8 := Lib.hid hr8; have y8 := (meta_cells hr8).1.2.2.2; have f8 := (meta_cells hr8).2.2.2.2; have HO8 := Lib.hid hown8; have HG8 := Lib.hid hg8; clear hown8 hg8 hI8 hr8)
            have hlt8 := HHA.out.lt
            have hh8 := HHA.out.grown HG8.out (fun e => by have := (HOA.out.lt _ e.symm).1; omega) (fun e => by have := (HOA.out.lt _ e.symm).1; omega) (fun e => by have := (HOA.out.lt _ e.symm).1; omega) (fun r e => by have := (HOA.out.lt r e).1; omega)
            have hh9 := hh8.grown (grown_setCell w8 gy 3 (.slice A8 (L.length + 1) c8)) (by simp; omega) (by simp; omega) (by simp; omega) (fun r e => by cases e; omega)
            have hr9 := heap_setCell_same w8 gy 3 _ _ (.slice A8 (L.length + 1) c8) HR8.out
            have ho9 : (w8.setCell ⟨gy, 3, none⟩ (.slice A8 (L.length + 1) c8)).ownsRow (gy + 1) 3 1 (.slice A8 (L.length + 1) c8) (L.length + 1) (ivals (L ++ [x])) := own_same2 HO8.out (fun g hg => heap_setCell_other w8 ⟨gy, 3, none⟩ g _ (by have := (HO8.out.lt g hg).1; show g ≠ gy; omega))
            have HH9 := Lib.hid hh9; have HR9 := Lib.hid hr9; have HO9 := Lib.hid ho9
            clear hh8 hh9 hr9 ho9 hlt8
            go_roundw
            case rel =>
              refine ⟨L ++ [x], A8, c8, x, n - 1, c7, rfl, rfl, by rw [HLL.out]; omega, ?_, ?_, ?_, HH9.out, by omega, hc7z⟩
              · rw [HLL.out, show 41 - (L.length + 1) = 40 - L.length by omega]; exact HRE3.out
              · rw [HLL.out]; exact HR9.out
              · rw [HLL.out]; exact HO9.out
            case measure => simp [intOf]; omega
        · have hfr : ∀ ad, A = some ad → w.heap.size ≤ ad.block := fun ad e => by
            subst e
            have := (HOW.out.lt ad.block rfl).1
            omega
          have HFR := Lib.hid hfr; clear hfr
          have hLR : L = R := by
            have h1 := HRE.out
            rw [show 41 - L.length = (40 - L.length) + 1 by omega, Me.rest, if_pos (by cases hb : cu.2 <;> simp_all; omega)] at h1
            exact h1
          have hd : decide (0 < n) = false ∨ (decide (0 < n) = true ∧ decide ((L.length : Int) < 40) = false) ∨ (decide (0 < n) = true ∧ decide ((L.length : Int) < 40) = true ∧ cu.2 = true) := by
            by_cases h1 : 0 < n
            · by_cases h2 : L.length < 40
              · right; right
                refine ⟨by simpa using h1, by simp; omega, ?_⟩
                cases hb : cu.2
                · exact absurd ⟨h1, h2, hb⟩ hgo
                · rfl
              · right; left; exact ⟨by simpa using h1, by simp; omega⟩
            · left; simpa using h1
          obtain ⟨⟨z0, z1, z2, z3⟩, ⟨e0, e1, e2, e3⟩⟩ := meta_cells HH6.out.r
          have hgr := grown_four wr (w.heap.size + 1) (.int .i64 gen) (.int .i64 v1) (.int .i64 w2) (.slice A L.length cp)
          have hend : Below w.heap.size w ((((wr.setCell ⟨w.heap.size + 1, 0, none⟩ (.int .i64 gen)).setCell ⟨w.heap.size + 1, 1, none⟩ (.int .i64 v1)).setCell ⟨w.heap.size + 1, 2, none⟩ (.int .i64 w2)).setCell ⟨w.heap.size + 1, 3, none⟩ (.slice A L.length cp)) := HH6.out.bel.grown hgr HH6.out.bel.size (fun r e => by cases e; omega)
          have hres := meta_four HH6.out.r (.int .i64 gen) (.int .i64 v1) (.int .i64 w2) (.slice A L.length cp)
          have hin : Ints ((((wr.setCell ⟨w.heap.size + 1, 0, none⟩ (.int .i64 gen)).setCell ⟨w.heap.size + 1, 1, none⟩ (.int .i64 v1)).setCell ⟨w.heap.size + 1, 2, none⟩ (.int .i64 w2)).setCell ⟨w.heap.size + 1, 3, none⟩ (.slice A L.length cp)) A cp L := by
            obtain ⟨-, A', c', e, hI⟩ := own_irow (own_same2 HOW.out (fun g hg => hgr.block g (HOW.out.lt g hg).2 (by have := (HOW.out.lt g hg).1; simp; omega)))
            cases e
            exact hI
          have HLR := Lib.hid hLR; have HEND := Lib.hid hend; have HRES := Lib.hid hres; have HIN := Lib.hid hin
          clear hLR hgr hend hres hin hgo hN
          have hend2 : ∀ a : Act, a.tmps.getD 4 undef = .pointer (some ⟨w.heap.size + 1, 0, none⟩) → a.defers = [] → bodyPost Tryz.prog Tryz.f68 (fun e w' => ∃ A c, e = .returned ((Me.read s gen).val A c) ∧ Ints w' A c (Me.read s gen).bs ∧ (∀ ad, A = some ad → w.heap.size ≤ ad.block) ∧ Below w.heap.size w w') .ret a
              ((((wr.setCell ⟨w.heap.size + 1, 0, none⟩ (.int .i64 gen)).setCell ⟨w.heap.size + 1, 1, none⟩ (.int .i64 v1)).setCell ⟨w.heap.size + 1, 2, none⟩ (.int .i64 w2)).setCell ⟨w.heap.size + 1, 3, none⟩ (.slice A L.length cp)) := fun a ha hd => by
            refine bodyPost_ret (v := .agg #[.int .i64 gen, .int .i64 v1, .int .i64 w2, .slice A L.length cp]) ?_ hd ⟨A, cp, ?_, ?_, HFR.out, HEND.out⟩
            · exact results_cell_row rfl _ _ (w.heap.size + 1) 54 _ (0, 0) _ ha HRES.out Tryz.underlying54 rfl meta_size
            · rw [HREAD.out, ← HLR.out]; rfl
            · rw [HREAD.out, ← HLR.out]; exact HIN.out
          have HE := Lib.hid hend2
          clear hend2
          rcases hd with d1 | ⟨d1, d2⟩ | ⟨d1, d2, d3⟩
          · go_wp2_with fail
            exact HE.out _ rfl rfl
          · go_wp2_with fail
            exact HE.out _ rfl rfl
          · rw [d3] at b1
            clear d3
            go_wp2_with fail
            exact HE.out _ rfl rfl
end Go.Proofs.YtfibapfehgglhaaGreatDoor
