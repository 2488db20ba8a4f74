/-
  Sync.
-/
import Derived.Test.YtgpmomjdjakklaaSfL
namespace Go.Proofs.Ytgpmomjdjakklaa
open Go.RowKit
/-- a file is whole -/
theorem FsIn.rewhole {w w2 : World} {base fb : Nat} {S : Sf.St} {L : Nat → Prop} {mb sb : Nat} {cv : Value} {cvs : Nat → Value} (h : FsIn w base fb S L mb sb cv cvs) {x : Nat} (hx : L x) (hg : w.grownBy w2 (some x)) (b : ByteArray)
    (hb : w2.heap[x]? = some (.cells #[.string b, .string b, .slice none 0 0] 66 (0, 0))) : FsIn w2 base fb (S.file x (Sf.whole b)) L mb sb cv (fun k => if k = x then .slice none 0 0 else cvs k) := by
  have hbx := (h.fil x hx).blk
  refine ⟨h.lo, h.lom, h.los, h.ne, grown_keep h.blk hg ?_, h.nam.kept hg (fun e => by cases e; exact names_ne h.nam hbx rfl), h.syn.kept hg (fun e => by cases e; exact names_ne h.syn hbx rfl), row_kept h.row hg (fun r e => by cases e; exact own_ne h.row hbx (by decide)), fun k hk => ?_, ?_⟩
  · rintro rfl
    rw [h.blk] at hbx
    injection hbx with hbx
    injection hbx with _ hbx
    exact absurd hbx (by decide)
  · by_cases e : k = x
    · subst e
      rw [file_same, if_pos rfl]
      exact ⟨(h.fil k hk).lo, hb, World.ownsRow_nil _ _ _ _⟩
    · rw [file_other e, if_neg e]
      exact (h.fil k hk).other hg e (own_ne (h.fil k hk).row hbx (by decide))
  · intro a b2 ha hb2 hab r hr
    have hr : (if a = x then Value.slice none 0 0 else cvs a).ownBlock = some r := hr
    show (if b2 = x then Value.slice none 0 0 else cvs b2).ownBlock ≠ some r
    split at hr
    · cases hr
    · split
      · intro e; cases e
      · exact h.apart a b2 ha hb2 hab r hr
set_option maxRecDepth 100000 in
set_option maxHeartbeats 1000000 in
theorem syncDo_any {w : World} {base fb : Nat} {S : Sf.St} {L : Nat → Prop} (h : FsL w base fb S L) (hbase : base ≤ w.heap.size) {x : Nat} (hx : L x) (xb : Nat) (hxb : w.heap[xb]? = some (.cells #[.pointer (some ⟨x, 0, none⟩)] 60 (0, 0))) :
    Calls Try.prog 51 #[.pointer (some ⟨xb, 0, none⟩)] w fun e w' => e = .returned (.tuple #[]) ∧ FsL w' base fb (S.file x (Sf.whole (S.F x).bytes)) L ∧ Below base w w' ∧ Stays w w' := by
  obtain ⟨mb, sb, cv, cvs, h⟩ := h
  have HI := Lib.hid h; have HXB := Lib.hid hxb; have HBK := Lib.hid (h.fil x hx).blk
  clear h hxb
  go_enter Try.func51, Try.ntmps51
  go_wp2_with fail
  refine plain_T (fun U => Below w.heap.size w U) [7] (by kernel_rfl) ?_
  have HD : Hid (Below w.heap.size w w.drew) := Lib.hid (Below.refl _ _).drew
  generalize w.drew = wd at HD ⊢
  refine wpAnyT_pick (S := (fun U => Below w.heap.size w U)) (by kernel_rfl) Only.panic Only.keepsIn (w := wd) HD.out [0, 1, 2, 3, 4] 3 _ _ (by kernel_rfl) ?_
  refine PickT.value (d := some 1) (.pointer (some ⟨x, 0, none⟩)) rfl rfl (by kernel_rfl) (fun U hU => (by have h0 : U.cell? ⟨xb, 0, none⟩ = some (.pointer (some ⟨x, 0, none⟩)) := cell_of_row _ _ _ _ _ _ (heap_keep HXB.out hU); go_simp)) ?_
  refine PickT.value (d := some 2) (.pointer (some ⟨x, 0, none⟩)) rfl rfl (by kernel_rfl) (fun U hU => (by have h0 : U.cell? ⟨xb, 0, none⟩ = some (.pointer (some ⟨x, 0, none⟩)) := cell_of_row _ _ _ _ _ _ (heap_keep HXB.out hU); go_simp)) ?_
  refine PickT.value (d := some 3) (.pointer (some ⟨x, 0, none⟩)) rfl rfl (by kernel_rfl) (fun U hU => (by go_simp)) ?_
  refine PickT.value (d := some 4) (.pointer (some ⟨x, 0, none⟩)) rfl rfl (by kernel_rfl) (fun U hU => (by go_simp)) ?_
  refine PickT.value (d := some 5) (.string (S.F x).bytes) rfl rfl (by kernel_rfl) (fun U hU => (by have h0 : U.cell? ⟨x, 0, none⟩ = some (.string (S.F x).bytes) := cell_of_row _ _ _ _ _ _ (heap_keep HBK.out hU); go_simp)) ?_
  simp only [PickT, Act.put, List.setIfInBounds_toArray, List.set_cons_zero, List.set_cons_succ]
  refine wpAnyT_one (i := 5) (by kernel_rfl) rfl (by kernel_rfl) ?_
  intro K hK
  unfold Oper.wp
  go_simp
  refine (whole_any (S.F x).bytes _).mono ?_; rintro e w2 ⟨rfl, hb2⟩
  have HB2 := Lib.hid (below_step HD.out hb2)
  have HBK2 := Lib.hid (heap_keep HBK.out HB2.out)
  clear hb2
  refine hK _ _ (fun _ => HB2.out) ?_
  clear hK K
  refine wpAnyT_pick (S := (fun U => Below w.heap.size w U)) (by kernel_rfl) Only.panic Only.keepsIn (w := w2) HB2.out [6] 1 _ _ (by kernel_rfl) ?_
  refine PickT.value (d := some 7) (.pointer (some ⟨x, 0, none⟩)) rfl rfl (by kernel_rfl) (fun U hU => (by go_simp)) ?_
  simp only [PickT, Act.put, List.setIfInBounds_toArray]
  have z0 : w2.cell? ⟨x, 0, none⟩ = some (.string (S.F x).bytes) := cell_of_row _ _ _ _ _ _ HBK2.out
  have z1 : w2.cell? ⟨x, 1, none⟩ = some (.string (S.F x).synced) := cell_of_row _ _ _ _ _ _ HBK2.out
  have z2 : w2.cell? ⟨x, 2, none⟩ = some (cvs x) := cell_of_row _ _ _ _ _ _ HBK2.out
  have f0 : w2.frozen? ⟨x, 0, none⟩ = false := frozen_of_row _ _ _ _ _ HBK2.out
  have f1 : w2.frozen? ⟨x, 1, none⟩ = false := frozen_of_row _ _ _ _ _ HBK2.out
  have f2 : w2.frozen? ⟨x, 2, none⟩ = false := frozen_of_row _ _ _ _ _ HBK2.out
  refine wpAnyT_one (i := 7) (by kernel_rfl) rfl (by kernel_rfl) ?_
  intro K hK
  unfold Oper.wp
  go_simp
  clear z0 z1 z2 f0 f1 f2
  refine hK _ _ (fun h => absurd h (by decide)) ?_
  clear hK K
  have hg := grown_trans (grown_trans (grown_setCell w2 x 0 (.string (S.F x).bytes)) (grown_setCell _ x 1 (.string (S.F x).bytes))) (grown_setCell _ x 2 (.slice none 0 0))
  have hblk := heap_setCell_same _ x 2 _ _ (.slice none 0 0) (heap_setCell_same _ x 1 _ _ (.string (S.F x).bytes) (heap_setCell_same _ x 0 _ _ (.string (S.F x).bytes) HBK2.out))
  have hfs := (HI.out.far HB2.out).rewhole hx hg (S.F x).bytes (hblk.trans rfl)
  have hlx : base ≤ x := (HI.out.fil x hx).lo
  have HFIN := Lib.hid (And.intro (show FsL _ base fb _ L from ⟨mb, sb, cv, _, hfs⟩) (And.intro ((HB2.out.mono hbase).grown hg (Nat.le_trans hbase HB2.out.size) (fun r e => by cases e; exact hlx)) ((Stays.below HB2.out).trans (Stays.grown hg (fun cs T fr e => by rw [HBK2.out] at e; cases e; exact .inr (.inl rfl))))))
  clear hg hblk hfs hlx
  refine wpAnyT_done (by kernel_rfl) ?_ _
  refine only_mk ?_
  go_wp2_with fail
  go_end0
  exact ⟨rfl, HFIN.out⟩
set_option maxRecDepth 100000 in
set_option maxHeartbeats 2000000 in
theorem Sync_any {w : World} {base fb B N : Nat} {S : Sf.St} (h : FsAt w base fb S) (hbase : base ≤ w.heap.size) (hok : Sf.StOk B N S) (hN : N ≤ 999) (s : ByteArray) (hs : s.size ≤ maxLen) :
    Calls Try.prog 32 #[.pointer (some ⟨fb, 0, none⟩), .string s] w fun e w' => e = .returned (.int .i64 (S.sync s).2) ∧ Left w base fb (S.sync s).1 w' := by
  have HFI := Lib.hid (find_any h hok.nice s hs)
  have HL : Hid (∀ v : Value, Left w base fb S (w.alloc (.cells #[v] 60))) := Lib.hid (fun v => by
    have hb2 := (Below.refl w.heap.size w).alloc (Nat.le_refl _) (.cells #[v] 60)
    exact ⟨h.far hb2, hb2.mono hbase, Stays.below hb2⟩)
  rcases Sf.find_cases S s with ⟨x, e, hd, hl⟩ | ⟨e, hd, hl⟩ | ⟨e, hd⟩
  · simp only [e, ptrV, Option.map_some] at HFI
    obtain ⟨w2, hw2⟩ : ∃ w2, w2 = w.alloc (.cells #[.pointer (some ⟨x, 0, none⟩)] 60) := ⟨_, rfl⟩
    obtain ⟨xb, hxb⟩ : ∃ xb, xb = w.heap.size := ⟨_, rfl⟩
    have hb2 : Below w.heap.size w w2 := by rw [hw2]; exact (Below.refl _ _).alloc (Nat.le_refl _) _
    have hx2 : w2.heap[xb]? = some (.cells #[.pointer (some ⟨x, 0, none⟩)] 60 (0, 0)) := by rw [hw2, hxb]; exact heap_alloc_new w _
    obtain ⟨mb, sb, cv, cvs, hfs⟩ := FsL.far h hb2
    have hlive := hok.lives hl
    have HSTEP := Lib.hid (stepped_of (w2 := w) (S2 := S.tick.file x (Sf.whole (S.F x).bytes)) hfs (Nat.le_trans hbase hb2.size) hok (by omega) 51 #[.pointer (some ⟨xb, 0, none⟩)] (enters_of Try.func51 (by kernel_rfl) rfl) (hb2.mono hbase) (Stays.below hb2) (fun U hg hU hbU => by
      refine syncDo_any (S := S.tick) ⟨mb, sb, cv, cvs, hU⟩ hbU hlive xb (grown_keep hx2 hg (fun e => ?_))
      rw [e, hfs.blk] at hx2
      injection hx2 with hx2
      injection hx2 with _ hx2
      exact absurd hx2 (by decide)))
    have e3 : S.sync s = S.fileDo x (Sf.whole (S.F x).bytes) := by unfold Sf.St.sync; rw [hd, hl]; rfl
    rw [e3]
    clear h hok e hd hl hb2 hx2 hfs hlive e3 HL
    have hmf := run_make_func
    go_enter Try.func32, Try.ntmps32
    go_wp2_with fail
    refine HFI.out.mono ?_; rintro e w9 ⟨rfl, hw9⟩
    rw [hw9]
    clear hw9
    go_wp2_with fail
    rw [← hw2, ← hxb]
    clear hw2 hxb
    refine HSTEP.out.mono ?_; rintro e w4 hst
    obtain ⟨he, hleft⟩ := hst.file
    subst he
    have HLE := Lib.hid hleft
    clear hst hleft
    go_wp2_with fail
    go_ret
    exact ⟨rfl, HLE.out⟩
  all_goals
    simp only [e, ptrV, Option.map_none] at HFI
    have HLN := Lib.hid (HL.out (.pointer none))
    have er : S.sync s = (S, (S.find s).2) := by
      rw [e]
      unfold Sf.St.sync
      first
        | (rw [hd, hl]; rfl)
        | (rw [hd]; rfl)
    rw [er, e]
    clear h hok e er HL
    go_enter Try.func32, Try.ntmps32
    go_wp2_with fail
    refine HFI.out.mono ?_; rintro e w9 ⟨rfl, hw9⟩
    rw [hw9]
    clear hw9
    go_wp2_with fail
    go_ret
    exact ⟨rfl, HLN.out⟩
end Go.Proofs.Ytgpmomjdjakklaa
