import Derived.Test.YtfibapfehgglhaaGreatDoorSfD
/-
  A step; a change of names.
-/
namespace Go.Proofs.YtfibapfehgglhaaGreatDoor
open Go.RowKit
theorem FsIn.grown_tick {w : World} {base fb : Nat} {S : Sf.St} {L : Nat → Prop} {mb sb : Nat} {cv : Value} {cvs : Nat → Value} (h : FsIn w base fb S L mb sb cv cvs) :
    FsIn (if 0 < S.fuse then (w.setCell ⟨fb, 5, none⟩ (.int .i64 (S.fuse - 1))).setCell ⟨fb, 4, none⟩ (.int .i64 (S.steps + 1)) else w.setCell ⟨fb, 4, none⟩ (.int .i64 (S.steps + 1))) base fb S.tick L mb sb cv cvs ∧
    w.grownBy (if 0 < S.fuse then (w.setCell ⟨fb, 5, none⟩ (.int .i64 (S.fuse - 1))).setCell ⟨fb, 4, none⟩ (.int .i64 (S.steps + 1)) else w.setCell ⟨fb, 4, none⟩ (.int .i64 (S.steps + 1))) (some fb) := by
  by_cases hf : 0 < S.fuse
  · rw [if_pos hf]
    have g1 := grown_trans (grown_setCell w fb 5 (.int .i64 (S.fuse - 1))) (grown_setCell _ fb 4 (.int .i64 (S.steps + 1)))
    refine ⟨?_, g1⟩
    have e : S.tick = { S with room := S.room, steps := S.steps + 1, fuse := S.fuse - 1, dead := S.dead } := by unfold Sf.St.tick; rw [if_pos hf]
    rw [e]
    exact h.turn g1 _ _ _ _ (fs_cells (fs_cells h.blk 5 _) 4 _)
  · rw [if_neg hf]
    have g1 := grown_setCell w fb 4 (.int .i64 (S.steps + 1))
    refine ⟨?_, g1⟩
    have e : S.tick = { S with room := S.room, steps := S.steps + 1, fuse := S.fuse, dead := S.dead } := by unfold Sf.St.tick; rw [if_neg hf]
    rw [e]
    exact h.turn g1 _ _ _ _ (fs_cells h.blk 4 _)
set_option maxRecDepth 100000 in
set_option maxHeartbeats 1000000 in
theorem step_any {w : World} {base fb B N : Nat} {S : Sf.St} {L : Nat → Prop} {mb sb : Nat} {cv : Value} {cvs : Nat → Value} (h : FsIn w base fb S L mb sb cv cvs) (hok : Sf.StOk B N S) (hN : N ≤ 1000000) (k : Nat) (caps : Array Value) (he : ∀ args w, (callFunc k args).run Tryz.prog w = .ok (.enter k args) w) (R : World → Prop)
    (hdo : S.fuse ≠ 0 → ∀ U, w.grownBy U (some fb) → FsIn U base fb S.tick L mb sb cv cvs → Calls Tryz.prog k caps U fun e w' => e = .returned (.tuple #[]) ∧ R w') :
    Calls Tryz.prog 90 #[.pointer (some ⟨fb, 0, none⟩), .func (.func k) #[] caps] w fun e w' => (S.fuse = 0 ∧ e = .returned (.int .i64 13) ∧ FsIn w' base fb S.kill L mb sb cv cvs ∧ w.grownBy w' (some fb)) ∨ (S.fuse ≠ 0 ∧ e = .returned (.int .i64 0) ∧ R w') := by
  have HG := Lib.hid h.grown_tick
  have c4 : w.cell? ⟨fb, 4, none⟩ = some (.int .i64 S.steps) := cell_of_row _ _ _ _ _ _ h.blk
  have c5 : w.cell? ⟨fb, 5, none⟩ = some (.int .i64 S.fuse) := cell_of_row _ _ _ _ _ _ h.blk
  have c6 : w.cell? ⟨fb, 6, none⟩ = some (.bool S.dead) := cell_of_row _ _ _ _ _ _ h.blk
  have f4 : w.frozen? ⟨fb, 4, none⟩ = false := frozen_of_row _ _ _ _ _ h.blk
  have f5 : w.frozen? ⟨fb, 5, none⟩ = false := frozen_of_row _ _ _ _ _ h.blk
  have f6 : w.frozen? ⟨fb, 6, none⟩ = false := frozen_of_row _ _ _ _ _ h.blk
  have HK : Hid (FsIn (w.setCell ⟨fb, 6, none⟩ (.bool true)) base fb S.kill L mb sb cv cvs) := Lib.hid (h.turn (grown_setCell w fb 6 _) S.room S.steps S.fuse true (fs_cells h.blk 6 _))
  have HDO := Lib.hid hdo
  have hs1 := hok.s1; have hs2 := hok.s2; have hf1 := hok.f1; have hf2 := hok.f2
  have w1 : wrap64 (S.steps + 1) = S.steps + 1 := IntWalk.wrap64_in _ (by omega)
  have w2 : wrap64 (S.fuse - 1) = S.fuse - 1 := IntWalk.wrap64_in _ (by omega)
  clear h hdo hok
  generalize hst : S.steps = st at *
  generalize hfu : S.fuse = fu at *
  have HE := Lib.hid (And.intro hst hfu)
  clear hst hfu
  by_cases h0 : fu = 0
  · subst h0
    clear HDO HG hs1 hs2 hf1 hf2 w1 w2
    go_enter Tryz.func90, Tryz.ntmps90
    go_wp2_with fail
    go_ret
    exact .inl ⟨trivial, rfl, HK.out, grown_setCell w fb 6 _⟩
  · have d0 : (fu == 0) = false := by simpa using h0
    have d0b : decide (fu = 0) = false := decide_eq_false h0
    have HN := Lib.hid h0
    by_cases h1 : 0 < fu
    · have d1 : decide (0 < fu) = true := decide_eq_true h1
      simp only [if_pos h1] at HG
      clear HK h0 hf1 hf2 hs1 hs2
      go_enter Tryz.func90, Tryz.ntmps90
      go_wp2_with fail
      refine (HDO.out HN.out _ HG.out.2 HG.out.1).mono ?_; rintro e w2 ⟨rfl, hr⟩
      have HR := Lib.hid hr
      clear hr
      go_wp2_with fail
      go_ret
      exact .inr ⟨HN.out, rfl, HR.out⟩
    · have d1 : decide (0 < fu) = false := decide_eq_false h1
      simp only [if_neg h1] at HG
      clear HK h0 hf1 hf2 hs1 hs2 w2
      go_enter Tryz.func90, Tryz.ntmps90
      go_wp2_with fail
      refine (HDO.out HN.out _ HG.out.2 HG.out.1).mono ?_; rintro e w2 ⟨rfl, hr⟩
      have HR := Lib.hid hr
      clear hr
      go_wp2_with fail
      go_ret
      exact .inr ⟨HN.out, rfl, HR.out⟩
theorem infoNm : (Tryz.prog.info? 298).map (fun i => (i.zero, i.size, i.bytes)) = some (some .nilIface, 1, 16) := by kernel_rfl
theorem infoWr : (Tryz.prog.info? 242).map (fun i => (i.zero, i.size, i.bytes)) = some (some .nilIface, 1, 16) := by kernel_rfl
theorem rcells1 (x : Nat → Nat → Value) (n : Nat) : rcells 1 x n = (List.range n).map fun i => x i 0 := by
  induction n with
  | zero => rfl
  | succ n ih =>
    have e : (List.range (n + 1)).map (fun i => x i 0) = (List.range n).map (fun i => x i 0) ++ [x n 0] := by rw [List.range_succ, List.map_append]; rfl
    rw [rcells_succ, ih, e]
    rfl
theorem nx_cells (L : List Sf.Nm) : rcells 1 (nx L) L.length = L.map Sf.Nm.val := by
  rw [rcells1]
  apply List.ext_getElem
  · simp
  · intro i h1 h2
    have h : i < L.length := by simpa using h2
    simp [nx, List.getD, h]
theorem wx_cells (L : List Sf.Wr) : rcells 1 (wx L) L.length = L.map Sf.Wr.val := by
  rw [rcells1]
  apply List.ext_getElem
  · simp
  · intro i h1 h2
    have h : i < L.length := by simpa using h2
    simp [wx, List.getD, h]
theorem nx_snoc (L : List Sf.Nm) (c : Sf.Nm) : rcells 1 (nx L) L.length ++ rcells 1 (fun _ _ => c.val) 1 = rcells 1 (nx (L ++ [c])) (L ++ [c]).length := by
  rw [nx_cells, nx_cells, List.map_append]
  rfl
theorem wx_snoc (L : List Sf.Wr) (c : Sf.Wr) : rcells 1 (wx L) L.length ++ rcells 1 (fun _ _ => c.val) 1 = rcells 1 (wx (L ++ [c])) (L ++ [c]).length := by
  rw [wx_cells, wx_cells, List.map_append]
  rfl
/-- the names are others -/
theorem FsIn.named {w w2 : World} {base fb : Nat} {S : Sf.St} {L : Nat → Prop} {mb sb : Nat} {cv : Value} {cvs : Nat → Value} (h : FsIn w base fb S L mb sb cv cvs) (hg : w.grownBy w2 (some mb)) (d : Sf.D) (hd : NamesAt w2 mb d) : FsIn w2 base fb { S with names := d } L mb sb cv cvs :=
  ⟨h.lo, h.lom, h.los, h.ne, grown_keep h.blk hg (fun e => names_ne h.nam h.blk e.symm), hd, h.syn.kept hg (fun e => by cases e; exact h.ne rfl), row_kept h.row hg (fun r e => by cases e; exact own_ne_map h.row h.nam),
    fun x hx => (h.fil x hx).other hg (fun e => names_ne h.nam (h.fil x hx).blk e.symm) (own_ne_map (h.fil x hx).row h.nam), h.apart⟩
/-- a change of names is told -/
theorem FsIn.pushed {w w2 : World} {base fb : Nat} {S : Sf.St} {L : Nat → Prop} {mb sb : Nat} {cv cv2 : Value} {cvs : Nat → Value} (h : FsIn w base fb S L mb sb cv cvs) (hg : w.grownBy w2 cv.ownBlock) (c : Sf.Nm)
    (hr : w2.ownsRow base 298 1 cv2 (S.chg ++ [c]).length (rcells 1 (nx (S.chg ++ [c])) (S.chg ++ [c]).length)) :
    FsIn (w2.setCell ⟨fb, 2, none⟩ cv2) base fb { S with chg := S.chg ++ [c] } L mb sb cv2 cvs := by
  have hblk : w2.heap[fb]? = some (.cells #[.map (some mb), .map (some sb), cv, .int .i64 S.room, .int .i64 S.steps, .int .i64 S.fuse, .bool S.dead] 51 (0, 0)) := (hg.block fb (Array.getElem?_eq_some_iff.1 h.blk).1 (fun e => own_ne h.row h.blk (by decide) e.symm)).trans h.blk
  have hfil : ∀ x, L x → FileAt w2 base x (S.F x) (cvs x) := fun x hx =>
    ⟨(h.fil x hx).lo, (hg.block x (Array.getElem?_eq_some_iff.1 (h.fil x hx).blk).1 (fun e => own_ne h.row (h.fil x hx).blk (by decide) e.symm)).trans (h.fil x hx).blk, row_kept (h.fil x hx).row hg (fun r e => row_apart (h.fil x hx).row h.row (by decide) e)⟩
  have hs := grown_setCell w2 fb 2 cv2
  have hnam : NamesAt w2 mb S.names := h.nam.kept hg (fun e => own_ne_map h.row h.nam e.symm)
  have hsyn : NamesAt w2 sb S.synced := h.syn.kept hg (fun e => own_ne_map h.row h.syn e.symm)
  refine ⟨h.lo, h.lom, h.los, h.ne, heap_setCell_same _ fb 2 _ _ cv2 hblk, hnam.kept hs (fun e => by cases e; exact names_ne hnam hblk rfl), hsyn.kept hs (fun e => by cases e; exact names_ne hsyn hblk rfl), row_kept hr hs (fun r e => by cases e; exact own_ne hr hblk (by decide)), fun x hx => (hfil x hx).other hs (by
    rintro rfl
    have h1 := (hfil _ hx).blk
    rw [hblk] at h1
    injection h1 with h1
    injection h1 with h1 h2
    exact absurd h2 (by decide)) (own_ne (hfil x hx).row hblk (by decide)), h.apart⟩
end Go.Proofs.YtfibapfehgglhaaGreatDoor
/-
  A change of names that is made, and told.
-/
namespace Go.Proofs.YtfibapfehgglhaaGreatDoor
open Go.RowKit
/-- the changes' own methods -/
theorem name_any (c : Sf.Nm) (w : World) (b : Nat) (d : Sf.D) (hm : NamesAt w b d) (hn : Sf.Nice d) (hc : c.ok d) (hs : ∀ a, (c = .rem a ∨ ∃ t, c = .ren a t) → a.size ≤ maxLen) :
    ∃ f v, c.val = .iface (match c with | .cre _ _ => 235 | .ren _ _ => 239 | .rem _ => 233) v ∧ f = (match c with | .cre _ _ => 426 | .ren _ _ => 428 | .rem _ => 425) ∧
      Calls Tryz.prog f #[v, .map (some b)] w fun e w' => e = .returned (.tuple #[]) ∧ NamesAt w' b (c.app d) ∧ w.grownBy w' (some b) := by
  have hz : Go.Maps.size d ≤ 1000 := Nat.le_trans hn.few (by decide)
  have h100 : 100 ≤ maxLen := by unfold maxLen; omega
  cases c with
  | cre s h => exact ⟨_, _, rfl, rfl, created_any s h w b d (Nat.le_trans hc h100) hm hz⟩
  | ren a t =>
    obtain ⟨⟨x, hx⟩, ht⟩ := hc
    exact ⟨_, _, rfl, rfl, renamed_any a t x w b d (hs a (.inr ⟨t, rfl⟩)) (Nat.le_trans ht h100) hm hn.files hn.tidy hx hz⟩
  | rem a => exact ⟨_, _, rfl, rfl, removed_any a w b d (hs a (.inl rfl)) hm⟩
theorem nil_name (T : TypeId) (f : Nat) (v : Value) (h : (T = 235 ∧ f = 426) ∨ (T = 239 ∧ f = 428) ∨ (T = 233 ∧ f = 425)) (w : World) :
    (nilAhead 616 T v "alluvium/simfs.name").run Tryz.prog w = .ok (some false) w ∧ (method 616 T v "alluvium/simfs.name").run Tryz.prog w = .ok (f, v) w := by
  rcases h with ⟨rfl, rfl⟩ | ⟨rfl, rfl⟩ | ⟨rfl, rfl⟩
  · exact ⟨by kernel_rfl, by kernel_rfl⟩
  · exact ⟨by kernel_rfl, by kernel_rfl⟩
  · exact ⟨by kernel_rfl, by kernel_rfl⟩
/-- what such a step finds -/
structure NamingIn (w : World) (base fb : Nat) (S : Sf.St) (L : Nat → Prop) (mb sb : Nat) (cv : Value) (cvs : Nat → Value) (cb pb : Nat) (c : Sf.Nm) : Prop where
  fs : FsIn w base fb S L mb sb cv cvs
  cbk : w.heap[cb]? = some (.cells #[c.val] 298 (0, 0))
  pbk : w.heap[pb]? = some (.cells #[.pointer (some ⟨fb, 0, none⟩)] 28 (0, 0))
  ne : cv.ownBlock ≠ some cb
theorem NamingIn.far {w w2 : World} {base fb : Nat} {S : Sf.St} {L : Nat → Prop} {mb sb : Nat} {cv : Value} {cvs : Nat → Value} {cb pb : Nat} {c : Sf.Nm} (h : NamingIn w base fb S L mb sb cv cvs cb pb c) (hb : Below w.heap.size w w2) : NamingIn w2 base fb S L mb sb cv cvs cb pb c := ⟨h.fs.far hb, heap_keep h.cbk hb, heap_keep h.pbk hb, h.ne⟩
theorem NamingIn.cells {w : World} {base fb : Nat} {S : Sf.St} {L : Nat → Prop} {mb sb : Nat} {cv : Value} {cvs : Nat → Value} {cb pb : Nat} {c : Sf.Nm} {T : TypeId} {v : Value} (hv : c.val = .iface T v) (h : NamingIn w base fb S L mb sb cv cvs cb pb c) :
    w.cell? ⟨cb, 0, none⟩ = some (.iface T v) ∧ w.cell? ⟨pb, 0, none⟩ = some (.pointer (some ⟨fb, 0, none⟩)) ∧ w.cell? ⟨fb, 0, none⟩ = some (.map (some mb)) ∧ w.cell? ⟨fb, 2, none⟩ = some cv := by
  have h1 := h.cbk
  rw [hv] at h1
  exact ⟨cell_of_row _ _ _ _ _ _ h1, cell_of_row _ _ _ _ _ _ h.pbk, cell_of_row _ _ _ _ _ _ h.fs.blk, cell_of_row _ _ _ _ _ _ h.fs.blk⟩
/-- the blocks that such a step reads -/
structure Boxes (w : World) (fb cb pb : Nat) (cs : Array Value) (x : Value) : Prop where
  f : w.heap[fb]? = some (.cells cs 51 (0, 0))
  c : w.heap[cb]? = some (.cells #[x] 298 (0, 0))
  p : w.heap[pb]? = some (.cells #[.pointer (some ⟨fb, 0, none⟩)] 28 (0, 0))
theorem Boxes.far {w w2 : World} {fb cb pb : Nat} {cs : Array Value} {x : Value} (h : Boxes w fb cb pb cs x) (hb : Below w.heap.size w w2) : Boxes w2 fb cb pb cs x := ⟨heap_keep h.f hb, heap_keep h.c hb, heap_keep h.p hb⟩
theorem Stays.map {w w2 : World} {b : Nat} {d : Sf.D} (h : NamesAt w b d) (hg : w.grownBy w2 (some b)) : Stays w w2 := Stays.grown hg (fun _ _ _ e => absurd rfl (names_ne h e))
theorem Stays.row {w w2 : World} {base k n : Nat} {v : Value} {xs : List Value} {e : TypeId} (h : w.ownsRow base e k v n xs) (he : e = 298 ∨ e = 242) (hg : w.grownBy w2 v.ownBlock) : Stays w w2 := fun j cs T fr ho a b c d => by
  refine (hg.block j (Array.getElem?_eq_some_iff.1 ho).1 (fun e2 => ?_)).trans ho
  exact own_ne h ho (by rintro rfl; rcases he with h | h; exact c h; exact d h) e2.symm
set_option maxRecDepth 100000 in
set_option maxHeartbeats 2000000 in
theorem naming_any {w : World} {base fb : Nat} {S : Sf.St} {L : Nat → Prop} {mb sb : Nat} {cv : Value} {cvs : Nat → Value} {cb pb : Nat} {c : Sf.Nm} (hbase : base ≤ w.heap.size) (hN : S.chg.length ≤ 1000) (h : NamingIn w base fb S L mb sb cv cvs cb pb c)
    (T : TypeId) (v : Value) (f : Nat) (hv : c.val = .iface T v) (hna : ∀ U, (nilAhead 616 T v "alluvium/simfs.name").run Tryz.prog U = .ok (some false) U) (hme : ∀ U, (method 616 T v "alluvium/simfs.name").run Tryz.prog U = .ok (f, v) U) (hfn : ∀ args w, (callFunc f args).run Tryz.prog w = .ok (.enter f args) w)
    (hn : ∀ U, NamesAt U mb S.names → Calls Tryz.prog f #[v, .map (some mb)] U fun e w' => e = .returned (.tuple #[]) ∧ NamesAt w' mb (c.app S.names) ∧ U.grownBy w' (some mb)) :
    Calls Tryz.prog 192 #[.pointer (some ⟨cb, 0, none⟩), .pointer (some ⟨pb, 0, none⟩)] w fun e w' => e = .returned (.tuple #[]) ∧ FsL w' base fb (S.naming c) L ∧ Below base w w' ∧ Stays w w' := by
  have HI := Lib.hid h; have HN := Lib.hid hn
  clear h hn
  go_enter Tryz.func192, Tryz.ntmps192
  go_wp2_with fail
  refine plain_T (fun U => Below w.heap.size w U) [8] (by kernel_rfl) ?_
  have HD : Hid (Below w.heap.size w w.drew) := Lib.hid (Below.refl _ _).drew
  generalize w.drew = wd at HD ⊢
  refine zq (S := (fun U => Below w.heap.size w U)) (w := wd) HD.out [0, 1, 2, 3, 4, 5, 6, 7] 1 ?_
  refine zp 2 (.iface T v) ?_ (hy := fun U hU => (by obtain ⟨h0, h1, h2, h3⟩ := (HI.out.far hU).cells hv; go_simp))
  refine zp 3 (.pointer (some ⟨fb, 0, none⟩)) ?_ (hy := fun U hU => (by obtain ⟨h0, h1, h2, h3⟩ := (HI.out.far hU).cells hv; go_simp))
  refine zp 4 (.pointer (some ⟨fb, 0, none⟩)) ?_
  refine zp 5 (.pointer (some ⟨fb, 0, none⟩)) ?_
  refine zp 6 (.map (some mb)) ?_ (hy := fun U hU => (by obtain ⟨h0, h1, h2, h3⟩ := (HI.out.far hU).cells hv; go_simp))
  refine zp 7 (.func (.method "alluvium/simfs.name") #[.iface T v] #[]) ?_
  refine zp 8 (.func (.method "alluvium/simfs.name") #[.iface T v] #[]) ?_
  refine zp 9 (.iface T v) ?_
  simp only [zx]
  refine zo 8 ?_
  intro K hK
  unfold Oper.wp
  go_simp
  refine (HN.out _ (HI.out.far HD.out).fs.nam).mono ?_; rintro e w2 ⟨rfl, hnm, hg⟩
  have h0 := HI.out.far HD.out
  have hst : Stays wd w2 := Stays.map h0.fs.nam hg
  have hlom := h0.fs.lom
  have HB2 : Hid (Below base w w2) := Lib.hid ((HD.out.mono hbase).grown hg (Nat.le_trans hbase HD.out.size) (fun r e => by cases e; exact hlom))
  have HST2 := Lib.hid ((Stays.below HD.out).trans hst)
  have HI2 : Hid (NamingIn w2 base fb { S with names := c.app S.names } L mb sb cv cvs cb pb c) := Lib.hid ⟨h0.fs.named hg _ hnm, grown_keep h0.cbk hg (fun e => names_ne h0.fs.nam h0.cbk e.symm), grown_keep h0.pbk hg (fun e => names_ne h0.fs.nam h0.pbk e.symm), h0.ne⟩
  clear h0 hst hnm hg
  refine hK _ _ (fun h => absurd h (by decide)) ?_
  clear hK K
  refine wpAnyT_done (by kernel_rfl) ?_ _
  refine only_mk ?_
  clear hna hme hfn HN
  go_wp2_with fail
  obtain ⟨A, kc, hcv, -⟩ := own_row HI2.out.fs.row
  subst hcv
  have HBX : Hid (Boxes w2 fb cb pb #[.map (some mb), .map (some sb), .slice A S.chg.length kc, .int .i64 S.room, .int .i64 S.steps, .int .i64 S.fuse, .bool S.dead] (.iface T v)) := Lib.hid ⟨HI2.out.fs.blk, by rw [← hv]; exact HI2.out.cbk, HI2.out.pbk⟩
  refine plain_T (fun U => Boxes U fb cb pb #[.map (some mb), .map (some sb), .slice A S.chg.length kc, .int .i64 S.room, .int .i64 S.steps, .int .i64 S.fuse, .bool S.dead] (.iface T v)) [10] (by kernel_rfl) ?_
  have HBD : Hid (Below w2.heap.size w2 w2.drew) := Lib.hid (Below.refl _ _).drew
  have HD3 := Lib.hid (HI2.out.far HBD.out)
  have HX3 := Lib.hid (HBX.out.far HBD.out)
  generalize w2.drew = we at HD3 HBD HX3 ⊢
  refine zq (S := (fun U => Boxes U fb cb pb #[.map (some mb), .map (some sb), .slice A S.chg.length kc, .int .i64 S.room, .int .i64 S.steps, .int .i64 S.fuse, .bool S.dead] (.iface T v))) (w := we) HX3.out [0, 1, 2, 3, 4, 5] 5 ?_
  refine zp 11 (.pointer (some ⟨fb, 0, none⟩)) ?_ (hy := fun U hU => (by have h0 : U.cell? ⟨pb, 0, none⟩ = some (.pointer (some ⟨fb, 0, none⟩)) := cell_of_row _ _ _ _ _ _ hU.p; go_simp))
  refine zp 12 (.pointer (some ⟨fb, 0, none⟩)) ?_ (hy := fun U hU => (by have h0 : U.cell? ⟨pb, 0, none⟩ = some (.pointer (some ⟨fb, 0, none⟩)) := cell_of_row _ _ _ _ _ _ hU.p; go_simp))
  refine zp 13 (.pointer (some ⟨fb, 0, none⟩)) ?_
  refine zp 14 (.pointer (some ⟨fb, 2, none⟩)) ?_
  refine zp 15 (.slice A S.chg.length kc) ?_ (hy := fun U hU => (by have h0 : U.cell? ⟨fb, 2, none⟩ = some (.slice A S.chg.length kc) := cell_of_row _ _ _ _ _ _ hU.f; go_simp))
  refine zp 16 (.iface T v) ?_ (hy := fun U hU => (by have h0 : U.cell? ⟨cb, 0, none⟩ = some (.iface T v) := cell_of_row _ _ _ _ _ _ hU.c; go_simp))
  simp only [zx]
  refine zo 6 ?_
  intro K hK
  unfold Oper.wp
  go_simp
  have HAL := Lib.hid ((Below.refl we.heap.size we).alloc (Nat.le_refl _) (.cells #[.iface T v] 298))
  have HD4 := Lib.hid (HD3.out.far HAL.out); have HX4 := Lib.hid (HX3.out.far HAL.out)
  have hbt : ∀ j, j < 1 → (#[Value.iface T v])[j]? = some c.val := fun j hj => by
    obtain rfl : j = 0 := by omega
    rw [hv]; rfl
  have h1c : ∀ (_ _ : Nat), (c.val).oneCell' = true := fun _ _ => by rw [hv]; rfl
  have hbs : base ≤ (we.alloc (.cells #[.iface T v] 298)).heap.size := by
    have h1 := HBD.out.size
    have h2 := HB2.out.size
    rw [World.size_alloc]
    omega
  refine hK _ _ (fun _ => HX4.out) ?_
  clear hK K
  refine zo 7 ?_
  intro K hK
  refine wp_append_row _ _ _ 49 298 rfl 1 16 _ Tryz.underlying49 infoNm rfl (by decide) (by decide) base (.slice A S.chg.length kc) S.chg.length (rcells 1 (nx S.chg) S.chg.length) rfl HD4.out.fs.row ⟨we.heap.size, 0, none⟩ 1 1 (fun _ _ => c.val) h1c rfl (row_built 1 _ we _ _ hbt) (by omega) hbs ?_
  intro v5 w5 hown5 hg5 _
  rw [nx_snoc] at hown5
  have hrow4 := HD4.out.fs.row
  have hx5 : Boxes w5 fb cb pb #[.map (some mb), .map (some sb), .slice A S.chg.length kc, .int .i64 S.room, .int .i64 S.steps, .int .i64 S.fuse, .bool S.dead] (.iface T v) :=
    ⟨(hg5.block fb (Array.getElem?_eq_some_iff.1 HX4.out.f).1 (fun e => own_ne hrow4 HX4.out.f (by decide) e.symm)).trans HX4.out.f,
      (hg5.block cb (Array.getElem?_eq_some_iff.1 HX4.out.c).1 (fun e => HD4.out.ne e.symm)).trans HX4.out.c,
      (hg5.block pb (Array.getElem?_eq_some_iff.1 HX4.out.p).1 (fun e => own_ne hrow4 HX4.out.p (by decide) e.symm)).trans HX4.out.p⟩
  have HX5 := Lib.hid hx5
  have hlen : S.chg.length + 1 = (S.chg ++ [c]).length := by simp
  rw [hlen] at hown5
  obtain ⟨A5, c5, rfl, -⟩ := own_row hown5
  have hB5 : Below base w w5 := ((HB2.out.trans ((HBD.out.trans (HAL.out.mono HBD.out.size)).mono (Nat.le_trans hbase HB2.out.size))).mono (Nat.le_refl _)).grown hg5 (by have h1 := HBD.out.size; have h2 := HB2.out.size; have h3 := HAL.out.size; omega) (fun r e => (hrow4.lt r e).1)
  have hS5 : Stays w w5 := ((HST2.out.trans (Stays.below HBD.out)).trans (Stays.below HAL.out)).trans (Stays.row hrow4 (.inl rfl) hg5)
  have hfs := HD4.out.fs.pushed hg5 c hown5
  have HFIN : Hid (FsL (w5.setCell ⟨fb, 2, none⟩ (.slice A5 (S.chg ++ [c]).length c5)) base fb (S.naming c) L ∧ Below base w (w5.setCell ⟨fb, 2, none⟩ (.slice A5 (S.chg ++ [c]).length c5)) ∧ Stays w (w5.setCell ⟨fb, 2, none⟩ (.slice A5 (S.chg ++ [c]).length c5))) := Lib.hid
    ⟨⟨mb, sb, _, cvs, hfs⟩, hB5.grown (grown_setCell w5 fb 2 _) (Nat.le_trans hbase hB5.size) (fun r e => by cases e; exact HD4.out.fs.lo), hS5.trans (Stays.grown (grown_setCell w5 fb 2 _) (fun cs T fr e => by rw [HX5.out.f] at e; cases e; exact .inl rfl))⟩
  simp only [List.length_append, List.length_singleton] at HFIN
  clear hrow4 hx5 hown5 hg5 hlen hB5 hS5 hfs hbt h1c hbs
  refine hK _ _ (fun _ => HX5.out) ?_
  clear hK K
  refine zq (S := (fun U => Boxes U fb cb pb #[.map (some mb), .map (some sb), .slice A S.chg.length kc, .int .i64 S.room, .int .i64 S.steps, .int .i64 S.fuse, .bool S.dead] (.iface T v))) (w := w5) HX5.out [8, 9] 1 ?_
  refine zp 19 (.pointer (some ⟨fb, 0, none⟩)) ?_
  refine zp 20 (.pointer (some ⟨fb, 2, none⟩)) ?_
  simp only [zx]
  have z2 : w5.cell? ⟨fb, 2, none⟩ = some (.slice A S.chg.length kc) := cell_of_row _ _ _ _ _ _ HX5.out.f
  have f2 : w5.frozen? ⟨fb, 2, none⟩ = false := frozen_of_row _ _ _ _ _ HX5.out.f
  refine zo 10 ?_
  intro K hK
  unfold Oper.wp
  go_simp
  clear z2 f2
  refine hK _ _ (fun h => absurd h (by decide)) ?_
  clear hK K
  refine wpAnyT_done (by kernel_rfl) ?_ _
  refine only_mk ?_
  go_wp2_with fail
  go_end0
  exact ⟨rfl, HFIN.out⟩
end Go.Proofs.YtfibapfehgglhaaGreatDoor
/-
  A change of names is a step.
-/
namespace Go.Proofs.YtfibapfehgglhaaGreatDoor
open Go.RowKit
/-- what a step comes to: the machine dies, or does it -/
def Stepped (w : World) (base fb : Nat) (S S2 : Sf.St) (L : Nat → Prop) (e : Ending) (w' : World) : Prop :=
  (S.fuse = 0 ∧ e = .returned (.int .i64 13) ∧ FsL w' base fb S.kill L ∧ Below base w w' ∧ Stays w w') ∨ (S.fuse ≠ 0 ∧ e = .returned (.int .i64 0) ∧ FsL w' base fb S2 L ∧ Below base w w' ∧ Stays w w')
theorem fs_stays {w : World} {fb : Nat} {cs : Array Value} {fr : Nat × Nat} (h : w.heap[fb]? = some (.cells cs 51 fr)) {w2 : World} (hg : w.grownBy w2 (some fb)) : Stays w w2 := Stays.grown hg (fun cs T fr e => by rw [h] at e; cases e; exact .inl rfl)
theorem val_iface (c : Sf.Nm) : ∃ T v f, c.val = .iface T v ∧ (∀ U, (nilAhead 616 T v "alluvium/simfs.name").run Tryz.prog U = .ok (some false) U) ∧ (∀ U, (method 616 T v "alluvium/simfs.name").run Tryz.prog U = .ok (f, v) U) ∧ (∀ args w, (callFunc f args).run Tryz.prog w = .ok (.enter f args) w) ∧
    ∀ (w : World) (b : Nat) (d : Sf.D), NamesAt w b d → Sf.Nice d → c.ok d → (∀ a, (c = .rem a ∨ ∃ t, c = .ren a t) → a.size ≤ maxLen) → Calls Tryz.prog f #[v, .map (some b)] w fun e w' => e = .returned (.tuple #[]) ∧ NamesAt w' b (c.app d) ∧ w.grownBy w' (some b) := by
  cases c with
  | cre s h =>
    refine ⟨_, _, _, rfl, fun U => (nil_name _ _ _ (.inl ⟨rfl, rfl⟩) U).1, fun U => (nil_name _ _ _ (.inl ⟨rfl, rfl⟩) U).2, enters_of Tryz.func426 (by kernel_rfl) rfl, ?_⟩
    intro w b d hm hn hc _
    exact created_any s h w b d (Nat.le_trans hc (by unfold maxLen; omega)) hm (Nat.le_trans hn.few (by decide))
  | ren a t =>
    refine ⟨_, _, _, rfl, fun U => (nil_name _ _ _ (.inr (.inl ⟨rfl, rfl⟩)) U).1, fun U => (nil_name _ _ _ (.inr (.inl ⟨rfl, rfl⟩)) U).2, enters_of Tryz.func428 (by kernel_rfl) rfl, ?_⟩
    intro w b d hm hn hc hs
    obtain ⟨⟨x, hx⟩, ht⟩ := hc
    exact renamed_any a t x w b d (hs a (.inr ⟨t, rfl⟩)) (Nat.le_trans ht (by unfold maxLen; omega)) hm hn.files hn.tidy hx (Nat.le_trans hn.few (by decide))
  | rem a =>
    refine ⟨_, _, _, rfl, fun U => (nil_name _ _ _ (.inr (.inr ⟨rfl, rfl⟩)) U).1, fun U => (nil_name _ _ _ (.inr (.inr ⟨rfl, rfl⟩)) U).2, enters_of Tryz.func425 (by kernel_rfl) rfl, ?_⟩
    intro w b d hm _ _ hs
    exact removed_any a w b d (hs a (.inl rfl)) hm
theorem run_make_func (fn : Fn) (first cap : Array Value) (w : World) : (Instr.makeFunc fn first cap).run Tryz.prog w = .ok (.func fn first cap) w := rfl
set_option maxRecDepth 100000 in
set_option maxHeartbeats 1000000 in
theorem nameStep_any {w : World} {base fb B N : Nat} {S : Sf.St} {L : Nat → Prop} (h : FsL w base fb S L) (hbase : base ≤ w.heap.size) (hok : Sf.StOk B N S) (hN : N ≤ 1000) (c : Sf.Nm) (hc : c.ok S.names) (hs : ∀ a, (c = .rem a ∨ ∃ t, c = .ren a t) → a.size ≤ maxLen) :
    Calls Tryz.prog 136 #[.pointer (some ⟨fb, 0, none⟩), c.val] w (Stepped w base fb S (S.tick.naming c) L) := by
  obtain ⟨mb, sb, cv, cvs, h⟩ := h
  obtain ⟨T, v, f, hv, hna, hme, hfn, hcall⟩ := val_iface c
  obtain ⟨w1, hw1⟩ : ∃ w1, w1 = (w.alloc (.cells #[.pointer (some ⟨fb, 0, none⟩)] 28)).alloc (.cells #[c.val] 298) := ⟨_, rfl⟩
  obtain ⟨pb, hpb⟩ : ∃ pb, pb = w.heap.size := ⟨_, rfl⟩
  have hb1 : Below w.heap.size w w1 := by rw [hw1]; exact ((Below.refl _ _).alloc (Nat.le_refl _) _).alloc (by simp) _
  have hp1 : w1.heap[pb]? = some (.cells #[.pointer (some ⟨fb, 0, none⟩)] 28 (0, 0)) := by rw [hw1, hpb]; exact heap_alloc2_old w _ _
  have hc1 : w1.heap[pb + 1]? = some (.cells #[c.val] 298 (0, 0)) := by rw [hw1, hpb]; exact heap_alloc2_new w _ _
  have hne : cv.ownBlock ≠ some (pb + 1) := by
    intro e
    have := (h.row.lt _ e).2
    omega
  have hf1 := h.far hb1
  have hNice := hok.nice
  have HST := Lib.hid (step_any hf1 hok (Nat.le_trans hN (by decide)) 192 #[.pointer (some ⟨pb + 1, 0, none⟩), .pointer (some ⟨pb, 0, none⟩)] (enters_of Tryz.func192 (by kernel_rfl) rfl)
    (fun w' => FsL w' base fb (S.tick.naming c) L ∧ Below base w w' ∧ Stays w w') (fun _ U hg hU => by
      have hp2 := grown_keep hp1 hg (by
        rintro rfl
        have := hf1.blk
        rw [hp1] at this
        injection this with this
        injection this with _ this
        exact absurd this (by decide))
      have hc2 := grown_keep hc1 hg (by
        rintro e
        have := hf1.blk
        rw [← e, hc1] at this
        injection this with this
        injection this with _ this
        exact absurd this (by decide))
      have hBU : Below base w U := (hb1.mono hbase).grown hg (Nat.le_trans hbase hb1.size) (fun r e => by cases e; exact h.lo)
      refine (naming_any (S := S.tick) (Nat.le_trans hbase hBU.size) (Nat.le_trans hok.few hN) ⟨hU, hc2, hp2, hne⟩ T v f hv hna hme hfn (fun V hV => hcall V mb S.names hV hNice hc hs)).mono ?_
      rintro e w' ⟨he, h1, h2, h3⟩
      exact ⟨he, h1, hBU.trans h2, (Stays.below hb1).trans ((fs_stays hf1.blk hg).trans h3)⟩))
  have HB1 := Lib.hid (And.intro hb1 hbase)
  have HF1 := Lib.hid hf1
  clear hf1 hb1 hp1 hc1 hne h hok hcall hna hme hfn hNice hc hs
  have hmf := run_make_func
  rw [hv] at hw1
  go_enter Tryz.func136, Tryz.ntmps136
  go_wp2_with fail
  rw [← hw1, ← hpb]
  clear hw1 hpb hmf
  refine HST.out.mono ?_; rintro e w2 (⟨hf0, rfl, hk, hg⟩ | ⟨hf0, rfl, hr⟩)
  · have HR : Hid (Stepped w base fb S (S.tick.naming c) L (.returned (.int .i64 13)) w2) := Lib.hid (.inl ⟨hf0, rfl, ⟨mb, sb, cv, cvs, hk⟩, (HB1.out.1.mono HB1.out.2).grown hg (Nat.le_trans HB1.out.2 HB1.out.1.size) (fun r e => by cases e; exact HF1.out.lo), (Stays.below HB1.out.1).trans (fs_stays HF1.out.blk hg)⟩)
    clear hf0 hk hg
    go_wp2_with fail
    go_ret
    exact HR.out
  · have HR : Hid (Stepped w base fb S (S.tick.naming c) L (.returned (.int .i64 0)) w2) := Lib.hid (.inr ⟨hf0, rfl, hr⟩)
    clear hf0 hr
    go_wp2_with fail
    go_ret
    exact HR.out
end Go.Proofs.YtfibapfehgglhaaGreatDoor
