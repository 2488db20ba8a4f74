/-
  What is torn; a machine in a world.
-/
import Derived.Test.YtgpmomjdjakklaaSfA
namespace Go.Proofs.Ytgpmomjdjakklaa
open Go.RowKit
/-- numbers that tell what survives, in a world -/
structure KeepIn (w : World) (A : Option Addr) (c : Nat) (k : Sf.Keep) : Prop where
  row : Row 1 (fun i _ => .int .i64 (k.g i)) w A k.n
  len : k.n ≤ maxLen
  wf : ∀ i, i < k.n → -9223372036854775808 ≤ k.g i ∧ k.g i ≤ 9223372036854775807
theorem KeepIn.later {w w2 : World} {A : Option Addr} {c : Nat} {k : Sf.Keep} (h : KeepIn w A c k) (hb : Below w.heap.size w w2) : KeepIn w2 A c k := ⟨h.row.later hb, h.len, h.wf⟩
theorem keep_share {w : World} {A : Option Addr} {c : Nat} {k : Sf.Keep} (h : KeepIn w A c k) (place n : Nat) (hn : n ≤ 1000000000) (hp : place ≤ 1000000000) :
    Calls Try.prog 37 #[.slice A k.n c, .int .i64 (place : Int), .int .i64 (n : Int)] w fun e w' => e = .returned (.int .i64 (Sf.share k place n : Nat)) ∧ w' = w := share_any A k.n c k.g place n hn hp h.len h.wf w h.row
set_option maxRecDepth 100000 in
theorem tornC_any (n : Int) (b : ByteArray) (v v2 : Value) (w : World) : Calls Try.prog 106 #[.agg #[.int .i64 n], .string b, v, v2] w fun e w' => e = .returned (.string b) ∧ Below w.heap.size w w' := by
  go_enter Try.func106, Try.ntmps106
  go_wp2_with fail
  go_ret
  first | exact ⟨rfl, Below.refl _ _⟩ | exact ⟨rfl, (Below.refl _ _).alloc (Nat.le_refl _) _⟩
set_option maxRecDepth 100000 in
set_option maxHeartbeats 1000000 in
theorem tornA_any (c b : ByteArray) (A : Option Addr) (kc : Nat) (k : Sf.Keep) (place : Nat) (hp : place ≤ 1000000000) (h : b.size + c.size ≤ 1000000000) (w : World) (hk : KeepIn w A kc k) :
    Calls Try.prog 102 #[.agg #[.string c], .string b, .slice A k.n kc, .int .i64 (place : Int)] w fun e w' => e = .returned (.string (b ++ c.extract 0 (Sf.share k place c.size))) ∧ Below w.heap.size w w' := by
  obtain ⟨w1, hw1⟩ : ∃ w1, w1 = w.alloc (.cells #[.string c] 74) := ⟨_, rfl⟩
  obtain ⟨xb, hxb⟩ : ∃ xb, xb = w.heap.size := ⟨_, rfl⟩
  have hb1 : Below w.heap.size w w1 := by rw [hw1]; exact (Below.refl _ _).alloc (Nat.le_refl _) _
  have HB : Hid (Below w.heap.size w w1) := Lib.hid hb1
  have HX : Hid (w1.heap[xb]? = some (.cells #[.string c] 74 (0, 0))) := Lib.hid (by rw [hw1, hxb]; exact heap_alloc_new w _)
  have hle := Sf.share_le k place c.size
  have HSH := Lib.hid (fun U (hU : Below w1.heap.size w1 U) => keep_share ((hk.later hb1).later hU) place c.size (by omega) hp)
  generalize Sf.share k place c.size = r at *
  have hz : ¬ 9223372036854775807 < b.size + r := by omega
  have hz2 : ¬ 9223372036854775807 < b.size + (c.extract 0 r).size := by rw [ByteArray.size_extract]; omega
  have hr : (r : Int) ≤ (c.size : Int) := by omega
  have hr0 : (0 : Int) ≤ (r : Int) := by omega
  clear hk hb1
  go_enter Try.func102, Try.ntmps102
  go_wp2_with fail
  rw [← hw1, ← hxb]
  clear hw1 hxb
  refine plain_T (fun U => Below w1.heap.size w1 U) [] (by kernel_rfl) ?_
  have HD : Hid (Below w1.heap.size w1 w1.drew) := Lib.hid (Below.refl _ _).drew
  generalize w1.drew = wd at HD ⊢
  refine wpAnyT_pick (S := (fun U => Below w1.heap.size w1 U)) (by kernel_rfl) Only.panic Only.keepsIn (w := wd) HD.out [0, 1, 2, 3, 4, 5, 6, 7] 4 _ _ (by kernel_rfl) ?_
  refine PickT.value (d := some 9) (.string b) rfl rfl (by kernel_rfl) (fun U hU => (by go_simp)) ?_
  refine PickT.value (d := some 10) (.pointer (some ⟨xb, 0, none⟩)) rfl rfl (by kernel_rfl) (fun U hU => (by go_simp)) ?_
  refine PickT.value (d := some 11) (.string c) rfl rfl (by kernel_rfl) (fun U hU => (by have h0 : U.cell? ⟨xb, 0, none⟩ = some (.string c) := cell_of_row _ _ _ _ _ _ (heap_keep HX.out hU); go_simp)) ?_
  refine PickT.value (d := some 12) (.slice A k.n kc) rfl rfl (by kernel_rfl) (fun U hU => (by go_simp)) ?_
  refine PickT.value (d := some 13) (.int .i64 (place : Int)) rfl rfl (by kernel_rfl) (fun U hU => (by go_simp)) ?_
  refine PickT.value (d := some 14) (.pointer (some ⟨xb, 0, none⟩)) rfl rfl (by kernel_rfl) (fun U hU => (by go_simp)) ?_
  refine PickT.value (d := some 15) (.string c) rfl rfl (by kernel_rfl) (fun U hU => (by have h0 : U.cell? ⟨xb, 0, none⟩ = some (.string c) := cell_of_row _ _ _ _ _ _ (heap_keep HX.out hU); go_simp)) ?_
  refine PickT.value (d := some 16) (.int .i64 (c.size : Int)) rfl rfl (by kernel_rfl) (fun U hU => (by go_simp)) ?_
  simp only [PickT, Act.put, List.setIfInBounds_toArray, List.set_cons_zero, List.set_cons_succ]
  refine wpAnyT_one (i := 8) (by kernel_rfl) rfl (by kernel_rfl) ?_
  intro K hK
  unfold Oper.wp
  go_simp
  refine (HSH.out _ HD.out).mono ?_; rintro e w9 ⟨rfl, rfl⟩
  refine hK _ _ (fun _ => HD.out) ?_
  clear hK K
  refine wpAnyT_pick (S := (fun U => Below w1.heap.size w1 U)) (by kernel_rfl) Only.panic Only.keepsIn (w := w9) HD.out [9, 10, 11] 0 _ _ (by kernel_rfl) ?_
  refine PickT.value (d := some 18) (.string (c.extract 0 r)) rfl rfl (by kernel_rfl) (fun U hU => (by go_simp)) ?_
  refine PickT.value (d := some 19) (.string (b ++ c.extract 0 r)) rfl rfl (by kernel_rfl) (fun U hU => (by go_simp)) ?_
  refine PickT.value (d := some 8) (.string (b ++ c.extract 0 r)) rfl rfl (by kernel_rfl) (fun U hU => (by go_simp)) ?_
  simp only [PickT, Act.put, List.setIfInBounds_toArray, List.set_cons_zero, List.set_cons_succ]
  refine wpAnyT_done (by kernel_rfl) ?_ _
  refine only_mk ?_
  have HFIN := Lib.hid (below_step HB.out HD.out)
  go_wp2_with fail
  go_ret
  exact ⟨rfl, HFIN.out⟩
end Go.Proofs.Ytgpmomjdjakklaa
