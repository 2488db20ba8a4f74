/-
  A change of a file.
-/
import Derived.Test.YtgpmomjdjakklaaSfJ
namespace Go.Proofs.Ytgpmomjdjakklaa
open Go.RowKit
theorem nil_write (T : TypeId) (f : Nat) (v : Value) (h : (T = 74 ∧ f = 103) ∨ (T = 96 ∧ f = 107)) (w : World) :
    (nilAhead 240 T v "alluvium/simfs.write").run Try.prog w = .ok (some false) w ∧ (method 240 T v "alluvium/simfs.write").run Try.prog w = .ok (f, v) w := by
  rcases h with ⟨rfl, rfl⟩ | ⟨rfl, rfl⟩
  · exact ⟨by kernel_rfl, by kernel_rfl⟩
  · exact ⟨by kernel_rfl, by kernel_rfl⟩
theorem wr_iface (c : Sf.Wr) : ∃ T v f, c.val = .iface T v ∧ (∀ U, (nilAhead 240 T v "alluvium/simfs.write").run Try.prog U = .ok (some false) U) ∧ (∀ U, (method 240 T v "alluvium/simfs.write").run Try.prog U = .ok (f, v) U) ∧ (∀ args w, (callFunc f args).run Try.prog w = .ok (.enter f args) w) ∧
    ∀ (B : Nat) (b : ByteArray) (w : World), B ≤ 1000000000 → c.ok B b → Calls Try.prog f #[v, .string b] w fun e w' => e = .returned (.string (c.write b)) ∧ Below w.heap.size w w' := by
  cases c with
  | app x =>
    refine ⟨_, _, _, rfl, fun U => (nil_write _ _ _ (.inl ⟨rfl, rfl⟩) U).1, fun U => (nil_write _ _ _ (.inl ⟨rfl, rfl⟩) U).2, enters_of Try.func103 (by kernel_rfl) rfl, ?_⟩
    intro B b w hB hc
    exact writeA_any x b (Nat.le_trans hc hB) w
  | cut n =>
    refine ⟨_, _, _, rfl, fun U => (nil_write _ _ _ (.inr ⟨rfl, rfl⟩) U).1, fun U => (nil_write _ _ _ (.inr ⟨rfl, rfl⟩) U).2, enters_of Try.func107 (by kernel_rfl) rfl, ?_⟩
    intro B b w _ hc
    exact writeC_any n b hc w
set_option maxRecDepth 100000 in
set_option maxHeartbeats 2000000 in
theorem change_any {w : World} {base fb B N : Nat} {S : Sf.St} {L : Nat → Prop} (h : FsL w base fb S L) (hbase : base ≤ w.heap.size) {x : Nat} (hx : L x) (hf : Sf.FileOk B N (S.F x)) (hN : N ≤ 1000) (hB : B ≤ 1000000000) (c : Sf.Wr) (hc : c.ok B (S.F x).bytes) :
    Calls Try.prog 46 #[.pointer (some ⟨x, 0, none⟩), c.val] w fun e w' => e = .returned (.tuple #[]) ∧ FsL w' base fb (S.file x ((S.F x).change c)) L ∧ Below base w w' ∧ Stays w w' := by
  obtain ⟨mb, sb, cv, cvs, h⟩ := h
  obtain ⟨T, v, f, hv, hna, hme, hfn, hcall⟩ := wr_iface c
  have HI := Lib.hid h
  have HBK := Lib.hid (h.fil x hx).blk
  have HC := Lib.hid (fun U => hcall B (S.F x).bytes U hB hc)
  have hlen := hf.few
  obtain ⟨A, kc, hcv, -⟩ := own_row (h.fil x hx).row
  clear h hcall hf hc
  rw [hv]
  go_enter Try.func46, Try.ntmps46
  go_wp2_with fail
  refine plain_T (fun U => Below w.heap.size w U) [12] (by kernel_rfl) ?_
  have HD : Hid (Below w.heap.size w w.drew) := Lib.hid (Below.refl _ _).drew
  generalize w.drew = wd at HD ⊢
  refine wpAnyT_pick (S := (fun U => Below w.heap.size w U)) (by kernel_rfl) Only.panic Only.keepsIn (w := wd) HD.out [0, 1, 2, 3, 4, 5, 6, 7, 8] 4 _ _ (by kernel_rfl) ?_
  refine PickT.value (d := some 4) (.pointer (some ⟨x, 0, none⟩)) rfl rfl (by kernel_rfl) (fun U hU => (by go_simp)) ?_
  refine PickT.value (d := some 5) (.iface T v) rfl rfl (by kernel_rfl) (fun U hU => (by go_simp)) ?_
  refine PickT.value (d := some 6) (.pointer (some ⟨x, 0, none⟩)) rfl rfl (by kernel_rfl) (fun U hU => (by go_simp)) ?_
  refine PickT.value (d := some 7) (.pointer (some ⟨x, 0, none⟩)) rfl rfl (by kernel_rfl) (fun U hU => (by go_simp)) ?_
  refine PickT.value (d := some 8) (.pointer (some ⟨x, 0, none⟩)) rfl rfl (by kernel_rfl) (fun U hU => (by go_simp)) ?_
  refine PickT.value (d := some 9) (.string (S.F x).bytes) rfl rfl (by kernel_rfl) (fun U hU => (by have h0 : U.cell? ⟨x, 0, none⟩ = some (.string (S.F x).bytes) := cell_of_row _ _ _ _ _ _ (heap_keep HBK.out hU); go_simp)) ?_
  refine PickT.value (d := some 10) (.func (.method "alluvium/simfs.write") #[.iface T v] #[]) rfl rfl (by kernel_rfl) (fun U hU => (by go_simp)) ?_
  refine PickT.value (d := some 11) (.func (.method "alluvium/simfs.write") #[.iface T v] #[]) rfl rfl (by kernel_rfl) (fun U hU => (by go_simp)) ?_
  refine PickT.value (d := some 12) (.iface T v) rfl rfl (by kernel_rfl) (fun U hU => (by go_simp)) ?_
  simp only [PickT, Act.put, List.setIfInBounds_toArray, List.set_cons_zero, List.set_cons_succ]
  refine wpAnyT_one (i := 9) (by kernel_rfl) rfl (by kernel_rfl) ?_
  intro K hK
  unfold Oper.wp
  go_simp
  refine (HC.out _).mono ?_; rintro e w2 ⟨rfl, hb2⟩
  have HB2 := Lib.hid (below_step HD.out hb2)
  have HBK2 := Lib.hid (heap_keep HBK.out HB2.out)
  clear hb2
  refine hK _ _ (fun _ => HB2.out) ?_
  clear hK K
  refine wpAnyT_pick (S := (fun U => Below w.heap.size w U)) (by kernel_rfl) Only.panic Only.keepsIn (w := w2) HB2.out [10, 11] 1 _ _ (by kernel_rfl) ?_
  refine PickT.value (d := some 14) (.pointer (some ⟨x, 0, none⟩)) rfl rfl (by kernel_rfl) (fun U hU => (by go_simp)) ?_
  refine PickT.value (d := some 15) (.pointer (some ⟨x, 0, none⟩)) rfl rfl (by kernel_rfl) (fun U hU => (by go_simp)) ?_
  simp only [PickT, Act.put, List.setIfInBounds_toArray]
  have z0 : w2.cell? ⟨x, 0, none⟩ = some (.string (S.F x).bytes) := cell_of_row _ _ _ _ _ _ HBK2.out
  have f0 : w2.frozen? ⟨x, 0, none⟩ = false := frozen_of_row _ _ _ _ _ HBK2.out
  refine wpAnyT_one (i := 12) (by kernel_rfl) rfl (by kernel_rfl) ?_
  intro K hK
  unfold Oper.wp
  go_simp
  clear z0 f0
  refine hK _ _ (fun h => absurd h (by decide)) ?_
  clear hK K
  have hI2 := HI.out.far HB2.out
  have hg3 := grown_setCell w2 x 0 (.string (c.write (S.F x).bytes))
  have hI3 := hI2.refile hx hg3 ⟨c.write (S.F x).bytes, (S.F x).synced, (S.F x).chg⟩ rfl (heap_setCell_same _ x 0 _ _ _ HBK2.out)
  have hS3 : Stays w (w2.setCell ⟨x, 0, none⟩ (.string (c.write (S.F x).bytes))) := (Stays.below HB2.out).trans (Stays.grown hg3 (fun cs T fr e => by rw [HBK2.out] at e; cases e; exact .inr (.inl rfl)))
  have hB3 : Below base w (w2.setCell ⟨x, 0, none⟩ (.string (c.write (S.F x).bytes))) := (HB2.out.mono hbase).grown hg3 (Nat.le_trans hbase HB2.out.size) (fun r e => by cases e; exact (hI2.fil x hx).lo)
  obtain ⟨w3, hw3⟩ : ∃ w3, w3 = w2.setCell ⟨x, 0, none⟩ (.string (c.write (S.F x).bytes)) := ⟨_, rfl⟩
  rw [← hw3] at hI3 hS3 hB3 ⊢
  have HI3 := Lib.hid hI3; have HS3 := Lib.hid hS3; have HB3 := Lib.hid hB3
  clear hI2 hg3 hI3 hS3 hB3 hw3
  refine wpAnyT_done (by kernel_rfl) ?_ _
  refine only_mk ?_
  clear hna hme hfn HC
  have hfil3 := HI3.out.fil x hx
  rw [file_same] at hfil3
  have HX3 : Hid (w3.heap[x]? = some (.cells #[.string (c.write (S.F x).bytes), .string (S.F x).synced, .slice A (S.F x).chg.length kc] 66 (0, 0))) := Lib.hid (by rw [← hcv]; exact hfil3.blk)
  have HR3 := Lib.hid hfil3.row
  clear hfil3
  have HB4 := Lib.hid ((Below.refl w3.heap.size w3).alloc (Nat.le_refl _) (.cells #[.iface T v] 88))
  have HX4 := Lib.hid (heap_keep HX3.out HB4.out)
  have HI4 := Lib.hid (HI3.out.far HB4.out)
  have HR4 : Hid ((w3.alloc (.cells #[.iface T v] 88)).ownsRow base 88 1 (.slice A (S.F x).chg.length kc) (S.F x).chg.length (rcells 1 (wx (S.F x).chg) (S.F x).chg.length)) := Lib.hid (by rw [← hcv]; exact row_far HR3.out HB4.out)
  have hbt : ∀ j, j < 1 → (#[Value.iface T v])[j]? = some c.val := fun j hj => by
    obtain rfl : j = 0 := by omega
    rw [hv]; rfl
  have HRB : Hid (Row 1 (fun _ _ => c.val) (w3.alloc (.cells #[.iface T v] 88)) (some ⟨w3.heap.size, 0, none⟩) 1) := Lib.hid (row_built 1 _ w3 _ _ hbt)
  have h1c : ∀ (_ _ : Nat), (c.val).oneCell' = true := fun _ _ => by rw [hv]; rfl
  have H1C := Lib.hid h1c
  have HBS : Hid (base ≤ (w3.alloc (.cells #[.iface T v] 88)).heap.size) := Lib.hid (Nat.le_trans hbase (Nat.le_trans HB3.out.size HB4.out.size))
  have e2 : (S.file x ⟨c.write (S.F x).bytes, (S.F x).synced, (S.F x).chg⟩).file x ⟨c.write (S.F x).bytes, (S.F x).synced, (S.F x).chg ++ [c]⟩ = S.file x ((S.F x).change c) := by
    unfold Sf.St.file Sf.File.change
    congr 1
    funext k
    show (if k = x then _ else if k = x then _ else S.F k) = if k = x then _ else S.F k
    split <;> rfl
  have HFIN : Hid (∀ (v5 : Value) (w5 : World), w5.ownsRow base 88 1 v5 ((S.F x).chg.length + 1) (rcells 1 (wx (S.F x).chg) (S.F x).chg.length ++ rcells 1 (fun _ _ => c.val) 1) → (w3.alloc (.cells #[.iface T v] 88)).grownBy w5 (Value.slice A (S.F x).chg.length kc).ownBlock → (v5.ownBlock = (Value.slice A (S.F x).chg.length kc).ownBlock ∨ v5.ownBlock = some (w3.alloc (.cells #[.iface T v] 88)).heap.size) →
      (∃ A5 c5, v5 = .slice A5 ((S.F x).chg.length + 1) c5) ∧ w5.cell? ⟨x, 2, none⟩ = some (.slice A (S.F x).chg.length kc) ∧ w5.frozen? ⟨x, 2, none⟩ = false ∧
      FsL (w5.setCell ⟨x, 2, none⟩ v5) base fb (S.file x ((S.F x).change c)) L ∧ Below base w (w5.setCell ⟨x, 2, none⟩ v5) ∧ Stays w (w5.setCell ⟨x, 2, none⟩ v5)) := Lib.hid (fun v5 w5 hown5 hg5 hl5 => by
    rw [wx_snoc] at hown5
    have hlen2 : (S.F x).chg.length + 1 = ((S.F x).chg ++ [c]).length := by simp
    rw [hlen2] at hown5
    have hx6 : w5.heap[x]? = some (.cells #[.string (c.write (S.F x).bytes), .string (S.F x).synced, .slice A (S.F x).chg.length kc] 66 (0, 0)) := (hg5.block x (Array.getElem?_eq_some_iff.1 HX4.out).1 (fun e => own_ne HR4.out HX4.out (by decide) e.symm)).trans HX4.out
    have hfs := HI4.out.filePushed hx (by rw [hcv]; exact hg5) c v5 (by rw [file_same]; exact hown5) (by rw [hcv]; exact hl5)
    rw [file_same] at hfs
    rw [e2] at hfs
    have hB6 : Below base w w5 := ((HB3.out.trans (HB4.out.mono (Nat.le_trans hbase HB3.out.size))).mono (Nat.le_refl _)).grown hg5 HBS.out (fun r e => (HR4.out.lt r e).1)
    have hS6 : Stays w w5 := (HS3.out.trans (Stays.below HB4.out)).trans (Stays.row HR4.out (.inr rfl) hg5)
    have hgs := grown_setCell w5 x 2 v5
    have hlx : base ≤ x := (HI.out.fil x hx).lo
    obtain ⟨A5, c5, e5, -⟩ := own_row hown5
    refine ⟨⟨A5, c5, by rw [e5, hlen2]⟩, cell_of_row _ _ _ _ _ _ hx6, frozen_of_row _ _ _ _ _ hx6, ⟨mb, sb, _, _, hfs⟩, hB6.grown hgs (Nat.le_trans hbase hB6.size) (fun r e => by cases e; exact hlx), hS6.trans (Stays.grown hgs (fun cs T fr e => by rw [hx6] at e; cases e; exact .inr (.inl rfl)))⟩)
  have x2 : w3.cell? ⟨x, 2, none⟩ = some (.slice A (S.F x).chg.length kc) := cell_of_row _ _ _ _ _ _ HX3.out
  have hl9 : (S.F x).chg.length + 1 ≤ 1000000 := by omega
  have HL9 := Lib.hid hl9
  clear hbt h1c e2 hcv hlen hl9
  go_wp2_with (at_builtin; (refine wpList_append_row_at _ rfl _ _ 64 88 rfl 1 16 .nilIface Try.underlying64 infoWr rfl (by decide) (by decide) base _ (S.F x).chg.length (rcells 1 (wx (S.F x).chg) (S.F x).chg.length) rfl HR4.out ⟨w3.heap.size, 0, none⟩ 1 1 (fun _ _ => c.val) H1C.out rfl HRB.out HL9.out HBS.out ?_); intro v5 w5 hown5 hg5 hl5; obtain ⟨⟨A5, c5, rfl⟩, z2, f2, hfin⟩ := HFIN.out v5 w5 hown5 hg5 hl5; have HEND := Lib.hid hfin; clear hown5 hg5 hl5 hfin)
  go_end0
  exact ⟨rfl, HEND.out⟩
end Go.Proofs.Ytgpmomjdjakklaa
