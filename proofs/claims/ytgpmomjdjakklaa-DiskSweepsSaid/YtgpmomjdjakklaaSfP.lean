/-
  SyncDir.
-/
import Derived.Test.YtgpmomjdjakklaaSfO
namespace Go.Proofs.Ytgpmomjdjakklaa
open Go.RowKit
/-- the names are synced -/
def Sf.St.dir (S : Sf.St) : Sf.St := { S with synced := S.names, chg := [] }
theorem FsIn.dir {w w2 : World} {base fb : Nat} {S : Sf.St} {L : Nat → Prop} {mb sb : Nat} {cv : Value} {cvs : Nat → Value} (h : FsIn w base fb S L mb sb cv cvs) (hg : w.grownBy w2 (some fb)) (nb : Nat) (hnb : base ≤ nb) (hne : mb ≠ nb) (hs : NamesAt w nb S.names)
    (hb : w2.heap[fb]? = some (.cells #[.map (some mb), .map (some nb), .slice none 0 0, .int .i64 S.room, .int .i64 S.steps, .int .i64 S.fuse, .bool S.dead] 50 (0, 0))) :
    FsIn w2 base fb S.dir L mb nb (.slice none 0 0) cvs :=
  ⟨h.lo, h.lom, hnb, hne, hb, h.nam.kept hg (fun e => by cases e; exact names_ne h.nam h.blk rfl), hs.kept hg (fun e => by cases e; exact names_ne hs h.blk rfl), World.ownsRow_nil _ _ _ _,
    fun x hx => (h.fil x hx).other hg (by
      rintro rfl
      have h1 := (h.fil _ hx).blk
      rw [h.blk] at h1
      injection h1 with h1
      injection h1 with h1 h2
      exact absurd h2 (by decide)) (own_ne (h.fil x hx).row h.blk (by decide)), h.apart⟩
set_option maxRecDepth 100000 in
set_option maxHeartbeats 1000000 in
theorem syncDirDo_any {w : World} {base fb : Nat} {S : Sf.St} {L : Nat → Prop} (h : FsL w base fb S L) (hbase : base ≤ w.heap.size) (hz : Go.Maps.size S.names ≤ 1000) (bb : Nat) (hbb : w.heap[bb]? = some (.cells #[.pointer (some ⟨fb, 0, none⟩)] 25 (0, 0))) :
    Calls Try.prog 53 #[.pointer (some ⟨bb, 0, none⟩)] w fun e w' => e = .returned (.tuple #[]) ∧ FsL w' base fb S.dir L ∧ Below base w w' ∧ Stays w w' := by
  obtain ⟨mb, sb, cv, cvs, h⟩ := h
  have HI := Lib.hid h; have HXB := Lib.hid hbb; have HBK := Lib.hid h.blk
  clear h hbb
  go_enter Try.func53, Try.ntmps53
  go_wp2_with fail
  refine plain_T (fun U => U.cell? ⟨bb, 0, none⟩ = some (.pointer (some ⟨fb, 0, none⟩)) ∧ U.cell? ⟨fb, 0, none⟩ = some (.map (some mb))) [] (by kernel_rfl) ?_
  have HD : Hid (Below w.heap.size w w.drew) := Lib.hid (Below.refl _ _).drew
  have HNE : Hid (bb ≠ fb) := Lib.hid (fun e => by
    have h1 := HXB.out
    rw [e, HBK.out] at h1
    injection h1 with h1
    injection h1 with h1 h2
    exact absurd h2 (by decide))
  generalize w.drew = wd at HD ⊢
  have HSD : Hid ((fun U => U.cell? ⟨bb, 0, none⟩ = some (.pointer (some ⟨fb, 0, none⟩)) ∧ U.cell? ⟨fb, 0, none⟩ = some (.map (some mb))) wd) := Lib.hid ⟨cell_of_row _ _ _ _ _ _ (heap_keep HXB.out HD.out), cell_of_row _ _ _ _ _ _ (heap_keep HBK.out HD.out)⟩
  refine wpAnyT_pick (S := (fun U => U.cell? ⟨bb, 0, none⟩ = some (.pointer (some ⟨fb, 0, none⟩)) ∧ U.cell? ⟨fb, 0, none⟩ = some (.map (some mb)))) (by kernel_rfl) Only.panic Only.keepsIn (w := wd) HSD.out [0, 1, 2, 3, 4, 5] 7 _ _ (by kernel_rfl) ?_
  refine PickT.value (d := some 1) (.pointer (some ⟨fb, 0, none⟩)) rfl rfl (by kernel_rfl) (fun U hU => (by have h0 := hU.1; go_simp)) ?_
  refine PickT.value (d := some 2) (.pointer (some ⟨fb, 0, none⟩)) rfl rfl (by kernel_rfl) (fun U hU => (by have h0 := hU.1; go_simp)) ?_
  refine PickT.value (d := some 3) (.pointer (some ⟨fb, 0, none⟩)) rfl rfl (by kernel_rfl) (fun U hU => (by have h0 := hU.1; go_simp)) ?_
  refine PickT.value (d := some 4) (.pointer (some ⟨fb, 0, none⟩)) rfl rfl (by kernel_rfl) (fun U hU => (by go_simp)) ?_
  refine PickT.value (d := some 5) (.pointer (some ⟨fb, 0, none⟩)) rfl rfl (by kernel_rfl) (fun U hU => (by go_simp)) ?_
  refine PickT.value (d := some 6) (.map (some mb)) rfl rfl (by kernel_rfl) (fun U hU => (by have h0 := hU.2; go_simp)) ?_
  simp only [PickT, Act.put, List.setIfInBounds_toArray, List.set_cons_zero, List.set_cons_succ]
  refine wpAnyT_one (i := 6) (by kernel_rfl) rfl (by kernel_rfl) ?_
  intro K hK
  unfold Oper.wp
  go_simp
  refine (anew_any mb S.names wd (HI.out.far HD.out).nam hz).mono ?_; rintro e w2 ⟨rfl, hnm, hb2⟩
  have hlt : mb < wd.heap.size := (HI.out.far HD.out).nam.lt
  obtain ⟨nb, hnb⟩ : ∃ nb, nb = wd.heap.size := ⟨_, rfl⟩
  rw [← hnb] at hnm hlt ⊢
  have hbn : base ≤ nb := by rw [hnb]; exact Nat.le_trans hbase HD.out.size
  have HN := Lib.hid (And.intro hbn (And.intro (Nat.ne_of_lt hlt) hnm))
  have HB2 := Lib.hid (below_step HD.out hb2)
  have HBK2 := Lib.hid (heap_keep HBK.out HB2.out)
  have HXB2 := Lib.hid (heap_keep HXB.out HB2.out)
  clear hb2 hbn hlt hnm hnb
  have HS2 : Hid ((fun U => U.cell? ⟨bb, 0, none⟩ = some (.pointer (some ⟨fb, 0, none⟩)) ∧ U.cell? ⟨fb, 0, none⟩ = some (.map (some mb))) w2) := Lib.hid ⟨cell_of_row _ _ _ _ _ _ HXB2.out, cell_of_row _ _ _ _ _ _ HBK2.out⟩
  refine hK _ _ (fun _ => HS2.out) ?_
  clear hK K
  refine wpAnyT_pick (S := (fun U => U.cell? ⟨bb, 0, none⟩ = some (.pointer (some ⟨fb, 0, none⟩)) ∧ U.cell? ⟨fb, 0, none⟩ = some (.map (some mb)))) (by kernel_rfl) Only.panic Only.keepsIn (w := w2) HS2.out [7, 8] 4 _ _ (by kernel_rfl) ?_
  refine PickT.value (d := some 8) (.pointer (some ⟨fb, 0, none⟩)) rfl rfl (by kernel_rfl) (fun U hU => (by go_simp)) ?_
  refine PickT.value (d := some 9) (.pointer (some ⟨fb, 1, none⟩)) rfl rfl (by kernel_rfl) (fun U hU => (by go_simp)) ?_
  simp only [PickT, Act.put, List.setIfInBounds_toArray]
  have z0 : w2.cell? ⟨fb, 1, none⟩ = some (.map (some sb)) := cell_of_row _ _ _ _ _ _ HBK2.out
  have f0 : w2.frozen? ⟨fb, 1, none⟩ = false := frozen_of_row _ _ _ _ _ HBK2.out
  refine wpAnyT_one (i := 9) (by kernel_rfl) rfl (by kernel_rfl) ?_
  intro K hK
  unfold Oper.wp
  go_simp
  clear z0 f0
  have HBK3 := Lib.hid (heap_setCell_same _ fb 1 _ _ (.map (some nb)) HBK2.out)
  have HXB3 := Lib.hid (grown_keep HXB2.out (grown_setCell w2 fb 1 (.map (some nb))) HNE.out)
  have HS3 : Hid ((fun U => U.cell? ⟨bb, 0, none⟩ = some (.pointer (some ⟨fb, 0, none⟩)) ∧ U.cell? ⟨fb, 0, none⟩ = some (.map (some mb))) (w2.setCell ⟨fb, 1, none⟩ (.map (some nb)))) := Lib.hid ⟨cell_of_row _ _ _ _ _ _ HXB3.out, cell_of_row _ _ _ _ _ _ HBK3.out⟩
  refine hK _ _ (fun _ => HS3.out) ?_
  clear hK K
  refine wpAnyT_pick (S := (fun U => U.cell? ⟨bb, 0, none⟩ = some (.pointer (some ⟨fb, 0, none⟩)) ∧ U.cell? ⟨fb, 0, none⟩ = some (.map (some mb)))) (by kernel_rfl) Only.panic Only.keepsIn (w := _) HS3.out [10, 11] 1 _ _ (by kernel_rfl) ?_
  refine PickT.value (d := some 10) (.pointer (some ⟨fb, 0, none⟩)) rfl rfl (by kernel_rfl) (fun U hU => (by go_simp)) ?_
  refine PickT.value (d := some 11) (.pointer (some ⟨fb, 2, none⟩)) rfl rfl (by kernel_rfl) (fun U hU => (by go_simp)) ?_
  simp only [PickT, Act.put, List.setIfInBounds_toArray]
  have z0 : (w2.setCell ⟨fb, 1, none⟩ (.map (some nb))).cell? ⟨fb, 2, none⟩ = some cv := cell_of_row _ _ _ _ _ _ HBK3.out
  have f0 : (w2.setCell ⟨fb, 1, none⟩ (.map (some nb))).frozen? ⟨fb, 2, none⟩ = false := frozen_of_row _ _ _ _ _ HBK3.out
  refine wpAnyT_one (i := 12) (by kernel_rfl) rfl (by kernel_rfl) ?_
  intro K hK
  unfold Oper.wp
  go_simp
  clear z0 f0
  have HBK4 := Lib.hid (heap_setCell_same _ fb 2 _ _ (.slice none 0 0) HBK3.out)
  have HXB4 := Lib.hid (grown_keep HXB3.out (grown_setCell _ fb 2 (.slice none 0 0)) HNE.out)
  have HS4 : Hid ((fun U => U.cell? ⟨bb, 0, none⟩ = some (.pointer (some ⟨fb, 0, none⟩)) ∧ U.cell? ⟨fb, 0, none⟩ = some (.map (some mb))) ((w2.setCell ⟨fb, 1, none⟩ (.map (some nb))).setCell ⟨fb, 2, none⟩ (.slice none 0 0))) := Lib.hid ⟨cell_of_row _ _ _ _ _ _ HXB4.out, cell_of_row _ _ _ _ _ _ HBK4.out⟩
  refine hK _ _ (fun _ => HS4.out) ?_
  clear hK K
  have hg := grown_trans (grown_setCell w2 fb 1 (.map (some nb))) (grown_setCell _ fb 2 (.slice none 0 0))
  have hblk := heap_setCell_same _ fb 2 _ _ (.slice none 0 0) (heap_setCell_same _ fb 1 _ _ (.map (some nb)) HBK2.out)
  have hfs := (HI.out.far HB2.out).dir hg nb HN.out.1 HN.out.2.1 HN.out.2.2 (hblk.trans rfl)
  have hlx : base ≤ fb := HI.out.lo
  have HFIN := Lib.hid (And.intro (show FsL _ base fb _ L from ⟨mb, nb, _, cvs, hfs⟩) (And.intro ((HB2.out.mono hbase).grown hg (Nat.le_trans hbase HB2.out.size) (fun r e => by cases e; exact hlx)) ((Stays.below HB2.out).trans (Stays.grown hg (fun cs T fr e => by rw [HBK2.out] at e; cases e; exact .inl rfl)))))
  clear hg hblk hfs hlx
  refine wpAnyT_done (by kernel_rfl) ?_ _
  refine only_mk ?_
  go_wp2_with fail
  go_end0
  exact ⟨rfl, HFIN.out⟩
def Sf.St.dirDo (S : Sf.St) : Sf.St × Int := if S.dead then (S, 13) else if S.fuse = 0 then (S.kill, 13) else (S.tick.dir, 0)
set_option maxRecDepth 100000 in
set_option maxHeartbeats 2000000 in
theorem SyncDir_any {w : World} {base fb B N : Nat} {S : Sf.St} (h : FsAt w base fb S) (hbase : base ≤ w.heap.size) (hok : Sf.StOk B N S) (hN : N ≤ 999) :
    Calls Try.prog 35 #[.pointer (some ⟨fb, 0, none⟩)] w fun e w' => e = .returned (.int .i64 S.dirDo.2) ∧ Left w base fb S.dirDo.1 w' := by
  obtain ⟨w2, hw2⟩ : ∃ w2, w2 = w.alloc (.cells #[.pointer (some ⟨fb, 0, none⟩)] 25) := ⟨_, rfl⟩
  obtain ⟨bb, hbb⟩ : ∃ bb, bb = w.heap.size := ⟨_, rfl⟩
  have hb2 : Below w.heap.size w w2 := by rw [hw2]; exact (Below.refl _ _).alloc (Nat.le_refl _) _
  have hx2 : w2.heap[bb]? = some (.cells #[.pointer (some ⟨fb, 0, none⟩)] 25 (0, 0)) := by rw [hw2, hbb]; exact heap_alloc_new w _
  obtain ⟨mb, sb, cv, cvs, hfs⟩ := FsL.far h hb2
  have HL : Hid (Left w base fb S w2) := Lib.hid ⟨⟨mb, sb, cv, cvs, hfs⟩, hb2.mono hbase, Stays.below hb2⟩
  have hz : Go.Maps.size S.tick.names ≤ 1000 := Nat.le_trans hok.nice.few (by omega)
  have HSTEP := Lib.hid (stepped_of (w2 := w) (S2 := S.tick.dir) hfs (Nat.le_trans hbase hb2.size) hok (by omega) 53 #[.pointer (some ⟨bb, 0, none⟩)] (enters_of Try.func53 (by kernel_rfl) rfl) (hb2.mono hbase) (Stays.below hb2) (fun U hg hU hbU => by
    refine syncDirDo_any (S := S.tick) ⟨mb, sb, cv, cvs, hU⟩ hbU hz bb (grown_keep hx2 hg (fun e => ?_))
    rw [e, hfs.blk] at hx2
    injection hx2 with hx2
    injection hx2 with _ hx2
    exact absurd hx2 (by decide)))
  have c0 : w2.cell? ⟨bb, 0, none⟩ = some (.pointer (some ⟨fb, 0, none⟩)) := cell_of_row _ _ _ _ _ _ hx2
  have c6 : w2.cell? ⟨fb, 6, none⟩ = some (.bool S.dead) := cell_of_row _ _ _ _ _ _ hfs.blk
  have hlv : ∀ x, Sf.live S.names [] x → Sf.live S.synced S.chg x := fun x hx => by
    rcases hx with ⟨s, hs⟩ | ⟨c, hc, -⟩
    · exact hok.lives hs
    · cases hc
  have HLV := Lib.hid hlv
  have hmf := run_make_func
  cases hd : S.dead
  · rw [hd] at c6
    have e3 : S.dirDo = if S.fuse = 0 then (S.kill, 13) else (S.tick.dir, 0) := by unfold Sf.St.dirDo; rw [hd]; rfl
    obtain ⟨r, hr⟩ : ∃ r, r = S.dirDo := ⟨_, rfl⟩
    rw [← hr]
    have HR := Lib.hid (hr.trans e3)
    clear h hok hd hb2 hx2 hfs e3 HL hlv hz hr
    have c7 := c6
    rw [hw2] at c7
    go_enter Try.func35, Try.ntmps35
    go_wp2_with fail
    rw [← hw2, ← hbb]
    clear hw2 hbb
    go_wp2_with fail
    clear c0 c6
    refine HSTEP.out.mono ?_; rintro e w4 hst
    have HST : Hid (e = .returned (.int .i64 r.2) ∧ Left w base fb r.1 w4) := Lib.hid (by
      rw [HR.out]
      rcases hst with ⟨h0, h1, h2, h3, h4⟩ | ⟨h0, h1, h2, h3, h4⟩
      · rw [if_pos h0]
        exact ⟨h1, h2, h3, h4⟩
      · rw [if_neg h0]
        exact ⟨h1, h2.weaken HLV.out, h3, h4⟩)
    obtain rfl := HST.out.1
    clear hst
    go_wp2_with fail
    go_ret
    exact ⟨rfl, HST.out.2⟩
  · rw [hd] at c6
    have e3 : S.dirDo = (S, 13) := by unfold Sf.St.dirDo; rw [hd]; rfl
    rw [e3]
    clear h hok hd hb2 hx2 hfs e3 hlv hz HSTEP
    have c7 := c6
    rw [hw2] at c7
    go_enter Try.func35, Try.ntmps35
    go_wp2_with fail
    rw [← hw2, ← hbb]
    clear hw2 hbb
    go_wp2_with fail
    go_ret
    exact ⟨rfl, HL.out⟩
end Go.Proofs.Ytgpmomjdjakklaa
