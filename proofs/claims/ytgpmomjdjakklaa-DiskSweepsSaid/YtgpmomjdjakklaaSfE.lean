/-
  A step; a change of names.
-/
import Derived.Test.YtgpmomjdjakklaaSfD
namespace Go.Proofs.Ytgpmomjdjakklaa
open Go.RowKit
theorem FsIn.grown_tick {w : World} {base fb : Nat} {S : Sf.St} {L : Nat → Prop} {mb sb : Nat} {cv : Value} {cvs : Nat → Value} (h : FsIn w base fb S L mb sb cv cvs) :
    FsIn (if 0 < S.fuse then (w.setCell ⟨fb, 5, none⟩ (.int .i64 (S.fuse - 1))).setCell ⟨fb, 4, none⟩ (.int .i64 (S.steps + 1)) else w.setCell ⟨fb, 4, none⟩ (.int .i64 (S.steps + 1))) base fb S.tick L mb sb cv cvs ∧
    w.grownBy (if 0 < S.fuse then (w.setCell ⟨fb, 5, none⟩ (.int .i64 (S.fuse - 1))).setCell ⟨fb, 4, none⟩ (.int .i64 (S.steps + 1)) else w.setCell ⟨fb, 4, none⟩ (.int .i64 (S.steps + 1))) (some fb) := by
  by_cases hf : 0 < S.fuse
  · rw [if_pos hf]
    have g1 := grown_trans (grown_setCell w fb 5 (.int .i64 (S.fuse - 1))) (grown_setCell _ fb 4 (.int .i64 (S.steps + 1)))
    refine ⟨?_, g1⟩
    have e : S.tick = { S with room := S.room, steps := S.steps + 1, fuse := S.fuse - 1, dead := S.dead } := by unfold Sf.St.tick; rw [if_pos hf]
    rw [e]
    exact h.turn g1 _ _ _ _ (fs_cells (fs_cells h.blk 5 _) 4 _)
  · rw [if_neg hf]
    have g1 := grown_setCell w fb 4 (.int .i64 (S.steps + 1))
    refine ⟨?_, g1⟩
    have e : S.tick = { S with room := S.room, steps := S.steps + 1, fuse := S.fuse, dead := S.dead } := by unfold Sf.St.tick; rw [if_neg hf]
    rw [e]
    exact h.turn g1 _ _ _ _ (fs_cells h.blk 4 _)
set_option maxRecDepth 100000 in
set_option maxHeartbeats 1000000 in
theorem step_any {w : World} {base fb B N : Nat} {S : Sf.St} {L : Nat → Prop} {mb sb : Nat} {cv : Value} {cvs : Nat → Value} (h : FsIn w base fb S L mb sb cv cvs) (hok : Sf.StOk B N S) (hN : N ≤ 1000000) (k : Nat) (caps : Array Value) (he : ∀ args w, (callFunc k args).run Try.prog w = .ok (.enter k args) w) (R : World → Prop)
    (hdo : S.fuse ≠ 0 → ∀ U, w.grownBy U (some fb) → FsIn U base fb S.tick L mb sb cv cvs → Calls Try.prog k caps U fun e w' => e = .returned (.tuple #[]) ∧ R w') :
    Calls Try.prog 44 #[.pointer (some ⟨fb, 0, none⟩), .func (.func k) #[] caps] w fun e w' => (S.fuse = 0 ∧ e = .returned (.int .i64 13) ∧ FsIn w' base fb S.kill L mb sb cv cvs ∧ w.grownBy w' (some fb)) ∨ (S.fuse ≠ 0 ∧ e = .returned (.int .i64 0) ∧ R w') := by
  have HG := Lib.hid h.grown_tick
  have c4 : w.cell? ⟨fb, 4, none⟩ = some (.int .i64 S.steps) := cell_of_row _ _ _ _ _ _ h.blk
  have c5 : w.cell? ⟨fb, 5, none⟩ = some (.int .i64 S.fuse) := cell_of_row _ _ _ _ _ _ h.blk
  have c6 : w.cell? ⟨fb, 6, none⟩ = some (.bool S.dead) := cell_of_row _ _ _ _ _ _ h.blk
  have f4 : w.frozen? ⟨fb, 4, none⟩ = false := frozen_of_row _ _ _ _ _ h.blk
  have f5 : w.frozen? ⟨fb, 5, none⟩ = false := frozen_of_row _ _ _ _ _ h.blk
  have f6 : w.frozen? ⟨fb, 6, none⟩ = false := frozen_of_row _ _ _ _ _ h.blk
  have HK : Hid (FsIn (w.setCell ⟨fb, 6, none⟩ (.bool true)) base fb S.kill L mb sb cv cvs) := Lib.hid (h.turn (grown_setCell w fb 6 _) S.room S.steps S.fuse true (fs_cells h.blk 6 _))
  have HDO := Lib.hid hdo
  have hs1 := hok.s1; have hs2 := hok.s2; have hf1 := hok.f1; have hf2 := hok.f2
  have w1 : wrap64 (S.steps + 1) = S.steps + 1 := IntWalk.wrap64_in _ (by omega)
  have w2 : wrap64 (S.fuse - 1) = S.fuse - 1 := IntWalk.wrap64_in _ (by omega)
  clear h hdo hok
  generalize hst : S.steps = st at *
  generalize hfu : S.fuse = fu at *
  have HE := Lib.hid (And.intro hst hfu)
  clear hst hfu
  by_cases h0 : fu = 0
  · subst h0
    clear HDO HG hs1 hs2 hf1 hf2 w1 w2
    go_enter Try.func44, Try.ntmps44
    go_wp2_with fail
    go_ret
    exact .inl ⟨trivial, rfl, HK.out, grown_setCell w fb 6 _⟩
  · have d0 : (fu == 0) = false := by simpa using h0
    have d0b : decide (fu = 0) = false := decide_eq_false h0
    have HN := Lib.hid h0
    by_cases h1 : 0 < fu
    · have d1 : decide (0 < fu) = true := decide_eq_true h1
      simp only [if_pos h1] at HG
      clear HK h0 hf1 hf2 hs1 hs2
      go_enter Try.func44, Try.ntmps44
      go_wp2_with fail
      refine (HDO.out HN.out _ HG.out.2 HG.out.1).mono ?_; rintro e w2 ⟨rfl, hr⟩
      have HR := Lib.hid hr
      clear hr
      go_wp2_with fail
      go_ret
      exact .inr ⟨HN.out, rfl, HR.out⟩
    · have d1 : decide (0 < fu) = false := decide_eq_false h1
      simp only [if_neg h1] at HG
      clear HK h0 hf1 hf2 hs1 hs2 w2
      go_enter Try.func44, Try.ntmps44
      go_wp2_with fail
      refine (HDO.out HN.out _ HG.out.2 HG.out.1).mono ?_; rintro e w2 ⟨rfl, hr⟩
      have HR := Lib.hid hr
      clear hr
      go_wp2_with fail
      go_ret
      exact .inr ⟨HN.out, rfl, HR.out⟩
theorem infoNm : (Try.prog.info? 58).map (fun i => (i.zero, i.size, i.bytes)) = some (some .nilIface, 1, 16) := by kernel_rfl
theorem infoWr : (Try.prog.info? 88).map (fun i => (i.zero, i.size, i.bytes)) = some (some .nilIface, 1, 16) := by kernel_rfl
theorem rcells1 (x : Nat → Nat → Value) (n : Nat) : rcells 1 x n = (List.range n).map fun i => x i 0 := by
  induction n with
  | zero => rfl
  | succ n ih =>
    have e : (List.range (n + 1)).map (fun i => x i 0) = (List.range n).map (fun i => x i 0) ++ [x n 0] := by rw [List.range_succ, List.map_append]; rfl
    rw [rcells_succ, ih, e]
    rfl
theorem nx_cells (L : List Sf.Nm) : rcells 1 (nx L) L.length = L.map Sf.Nm.val := by
  rw [rcells1]
  apply List.ext_getElem
  · simp
  · intro i h1 h2
    have h : i < L.length := by simpa using h2
    simp [nx, List.getD, h]
theorem wx_cells (L : List Sf.Wr) : rcells 1 (wx L) L.length = L.map Sf.Wr.val := by
  rw [rcells1]
  apply List.ext_getElem
  · simp
  · intro i h1 h2
    have h : i < L.length := by simpa using h2
    simp [wx, List.getD, h]
theorem nx_snoc (L : List Sf.Nm) (c : Sf.Nm) : rcells 1 (nx L) L.length ++ rcells 1 (fun _ _ => c.val) 1 = rcells 1 (nx (L ++ [c])) (L ++ [c]).length := by
  rw [nx_cells, nx_cells, List.map_append]
  rfl
theorem wx_snoc (L : List Sf.Wr) (c : Sf.Wr) : rcells 1 (wx L) L.length ++ rcells 1 (fun _ _ => c.val) 1 = rcells 1 (wx (L ++ [c])) (L ++ [c]).length := by
  rw [wx_cells, wx_cells, List.map_append]
  rfl
/-- the names are others -/
theorem FsIn.named {w w2 : World} {base fb : Nat} {S : Sf.St} {L : Nat → Prop} {mb sb : Nat} {cv : Value} {cvs : Nat → Value} (h : FsIn w base fb S L mb sb cv cvs) (hg : w.grownBy w2 (some mb)) (d : Sf.D) (hd : NamesAt w2 mb d) : FsIn w2 base fb { S with names := d } L mb sb cv cvs :=
  ⟨h.lo, h.lom, h.los, h.ne, grown_keep h.blk hg (fun e => names_ne h.nam h.blk e.symm), hd, h.syn.kept hg (fun e => by cases e; exact h.ne rfl), row_kept h.row hg (fun r e => by cases e; exact own_ne_map h.row h.nam),
    fun x hx => (h.fil x hx).other hg (fun e => names_ne h.nam (h.fil x hx).blk e.symm) (own_ne_map (h.fil x hx).row h.nam), h.apart⟩
/-- a change of names is told -/
theorem FsIn.pushed {w w2 : World} {base fb : Nat} {S : Sf.St} {L : Nat → Prop} {mb sb : Nat} {cv cv2 : Value} {cvs : Nat → Value} (h : FsIn w base fb S L mb sb cv cvs) (hg : w.grownBy w2 cv.ownBlock) (c : Sf.Nm)
    (hr : w2.ownsRow base 58 1 cv2 (S.chg ++ [c]).length (rcells 1 (nx (S.chg ++ [c])) (S.chg ++ [c]).length)) :
    FsIn (w2.setCell ⟨fb, 2, none⟩ cv2) base fb { S with chg := S.chg ++ [c] } L mb sb cv2 cvs := by
  have hblk : w2.heap[fb]? = some (.cells #[.map (some mb), .map (some sb), cv, .int .i64 S.room, .int .i64 S.steps, .int .i64 S.fuse, .bool S.dead] 50 (0, 0)) := (hg.block fb (Array.getElem?_eq_some_iff.1 h.blk).1 (fun e => own_ne h.row h.blk (by decide) e.symm)).trans h.blk
  have hfil : ∀ x, L x → FileAt w2 base x (S.F x) (cvs x) := fun x hx =>
    ⟨(h.fil x hx).lo, (hg.block x (Array.getElem?_eq_some_iff.1 (h.fil x hx).blk).1 (fun e => own_ne h.row (h.fil x hx).blk (by decide) e.symm)).trans (h.fil x hx).blk, row_kept (h.fil x hx).row hg (fun r e => row_apart (h.fil x hx).row h.row (by decide) e)⟩
  have hs := grown_setCell w2 fb 2 cv2
  have hnam : NamesAt w2 mb S.names := h.nam.kept hg (fun e => own_ne_map h.row h.nam e.symm)
  have hsyn : NamesAt w2 sb S.synced := h.syn.kept hg (fun e => own_ne_map h.row h.syn e.symm)
  refine ⟨h.lo, h.lom, h.los, h.ne, heap_setCell_same _ fb 2 _ _ cv2 hblk, hnam.kept hs (fun e => by cases e; exact names_ne hnam hblk rfl), hsyn.kept hs (fun e => by cases e; exact names_ne hsyn hblk rfl), row_kept hr hs (fun r e => by cases e; exact own_ne hr hblk (by decide)), fun x hx => (hfil x hx).other hs (by
    rintro rfl
    have h1 := (hfil _ hx).blk
    rw [hblk] at h1
    injection h1 with h1
    injection h1 with h1 h2
    exact absurd h2 (by decide)) (own_ne (hfil x hx).row hblk (by decide)), h.apart⟩
end Go.Proofs.Ytgpmomjdjakklaa
