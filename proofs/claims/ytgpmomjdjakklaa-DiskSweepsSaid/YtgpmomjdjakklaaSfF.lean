/-
  A change of names that is made, and told.
-/
import Derived.Test.YtgpmomjdjakklaaSfE
namespace Go.Proofs.Ytgpmomjdjakklaa
open Go.RowKit
/-- the changes' own methods -/
theorem name_any (c : Sf.Nm) (w : World) (b : Nat) (d : Sf.D) (hm : NamesAt w b d) (hn : Sf.Nice d) (hc : c.ok d) (hs : ∀ a, (c = .rem a ∨ ∃ t, c = .ren a t) → a.size ≤ maxLen) :
    ∃ f v, c.val = .iface (match c with | .cre _ _ => 70 | .ren _ _ => 82 | .rem _ => 78) v ∧ f = (match c with | .cre _ _ => 101 | .ren _ _ => 105 | .rem _ => 104) ∧
      Calls Try.prog f #[v, .map (some b)] w fun e w' => e = .returned (.tuple #[]) ∧ NamesAt w' b (c.app d) ∧ w.grownBy w' (some b) := by
  have hz : Go.Maps.size d ≤ 1000 := Nat.le_trans hn.few (by decide)
  have h100 : 100 ≤ maxLen := by unfold maxLen; omega
  cases c with
  | cre s h => exact ⟨_, _, rfl, rfl, created_any s h w b d (Nat.le_trans hc h100) hm hz⟩
  | ren a t =>
    obtain ⟨⟨x, hx⟩, ht⟩ := hc
    exact ⟨_, _, rfl, rfl, renamed_any a t x w b d (hs a (.inr ⟨t, rfl⟩)) (Nat.le_trans ht h100) hm hn.files hn.tidy hx hz⟩
  | rem a => exact ⟨_, _, rfl, rfl, removed_any a w b d (hs a (.inl rfl)) hm⟩
theorem nil_name (T : TypeId) (f : Nat) (v : Value) (h : (T = 70 ∧ f = 101) ∨ (T = 82 ∧ f = 105) ∨ (T = 78 ∧ f = 104)) (w : World) :
    (nilAhead 240 T v "alluvium/simfs.name").run Try.prog w = .ok (some false) w ∧ (method 240 T v "alluvium/simfs.name").run Try.prog w = .ok (f, v) w := by
  rcases h with ⟨rfl, rfl⟩ | ⟨rfl, rfl⟩ | ⟨rfl, rfl⟩
  · exact ⟨by kernel_rfl, by kernel_rfl⟩
  · exact ⟨by kernel_rfl, by kernel_rfl⟩
  · exact ⟨by kernel_rfl, by kernel_rfl⟩
/-- what such a step finds -/
structure NamingIn (w : World) (base fb : Nat) (S : Sf.St) (L : Nat → Prop) (mb sb : Nat) (cv : Value) (cvs : Nat → Value) (cb pb : Nat) (c : Sf.Nm) : Prop where
  fs : FsIn w base fb S L mb sb cv cvs
  cbk : w.heap[cb]? = some (.cells #[c.val] 58 (0, 0))
  pbk : w.heap[pb]? = some (.cells #[.pointer (some ⟨fb, 0, none⟩)] 25 (0, 0))
  ne : cv.ownBlock ≠ some cb
theorem NamingIn.far {w w2 : World} {base fb : Nat} {S : Sf.St} {L : Nat → Prop} {mb sb : Nat} {cv : Value} {cvs : Nat → Value} {cb pb : Nat} {c : Sf.Nm} (h : NamingIn w base fb S L mb sb cv cvs cb pb c) (hb : Below w.heap.size w w2) : NamingIn w2 base fb S L mb sb cv cvs cb pb c := ⟨h.fs.far hb, heap_keep h.cbk hb, heap_keep h.pbk hb, h.ne⟩
theorem NamingIn.cells {w : World} {base fb : Nat} {S : Sf.St} {L : Nat → Prop} {mb sb : Nat} {cv : Value} {cvs : Nat → Value} {cb pb : Nat} {c : Sf.Nm} {T : TypeId} {v : Value} (hv : c.val = .iface T v) (h : NamingIn w base fb S L mb sb cv cvs cb pb c) :
    w.cell? ⟨cb, 0, none⟩ = some (.iface T v) ∧ w.cell? ⟨pb, 0, none⟩ = some (.pointer (some ⟨fb, 0, none⟩)) ∧ w.cell? ⟨fb, 0, none⟩ = some (.map (some mb)) ∧ w.cell? ⟨fb, 2, none⟩ = some cv := by
  have h1 := h.cbk
  rw [hv] at h1
  exact ⟨cell_of_row _ _ _ _ _ _ h1, cell_of_row _ _ _ _ _ _ h.pbk, cell_of_row _ _ _ _ _ _ h.fs.blk, cell_of_row _ _ _ _ _ _ h.fs.blk⟩
/-- the blocks that such a step reads -/
structure Boxes (w : World) (fb cb pb : Nat) (cs : Array Value) (x : Value) : Prop where
  f : w.heap[fb]? = some (.cells cs 50 (0, 0))
  c : w.heap[cb]? = some (.cells #[x] 58 (0, 0))
  p : w.heap[pb]? = some (.cells #[.pointer (some ⟨fb, 0, none⟩)] 25 (0, 0))
theorem Boxes.far {w w2 : World} {fb cb pb : Nat} {cs : Array Value} {x : Value} (h : Boxes w fb cb pb cs x) (hb : Below w.heap.size w w2) : Boxes w2 fb cb pb cs x := ⟨heap_keep h.f hb, heap_keep h.c hb, heap_keep h.p hb⟩
theorem Stays.map {w w2 : World} {b : Nat} {d : Sf.D} (h : NamesAt w b d) (hg : w.grownBy w2 (some b)) : Stays w w2 := Stays.grown hg (fun _ _ _ e => absurd rfl (names_ne h e))
theorem Stays.row {w w2 : World} {base k n : Nat} {v : Value} {xs : List Value} {e : TypeId} (h : w.ownsRow base e k v n xs) (he : e = 58 ∨ e = 88) (hg : w.grownBy w2 v.ownBlock) : Stays w w2 := fun j cs T fr ho a b c d => by
  refine (hg.block j (Array.getElem?_eq_some_iff.1 ho).1 (fun e2 => ?_)).trans ho
  exact own_ne h ho (by rintro rfl; rcases he with h | h; exact c h; exact d h) e2.symm
set_option maxRecDepth 100000 in
set_option maxHeartbeats 2000000 in
theorem naming_any {w : World} {base fb : Nat} {S : Sf.St} {L : Nat → Prop} {mb sb : Nat} {cv : Value} {cvs : Nat → Value} {cb pb : Nat} {c : Sf.Nm} (hbase : base ≤ w.heap.size) (hN : S.chg.length ≤ 1000) (h : NamingIn w base fb S L mb sb cv cvs cb pb c)
    (T : TypeId) (v : Value) (f : Nat) (hv : c.val = .iface T v) (hna : ∀ U, (nilAhead 240 T v "alluvium/simfs.name").run Try.prog U = .ok (some false) U) (hme : ∀ U, (method 240 T v "alluvium/simfs.name").run Try.prog U = .ok (f, v) U) (hfn : ∀ args w, (callFunc f args).run Try.prog w = .ok (.enter f args) w)
    (hn : ∀ U, NamesAt U mb S.names → Calls Try.prog f #[v, .map (some mb)] U fun e w' => e = .returned (.tuple #[]) ∧ NamesAt w' mb (c.app S.names) ∧ U.grownBy w' (some mb)) :
    Calls Try.prog 56 #[.pointer (some ⟨cb, 0, none⟩), .pointer (some ⟨pb, 0, none⟩)] w fun e w' => e = .returned (.tuple #[]) ∧ FsL w' base fb (S.naming c) L ∧ Below base w w' ∧ Stays w w' := by
  have HI := Lib.hid h; have HN := Lib.hid hn
  clear h hn
  go_enter Try.func56, Try.ntmps56
  go_wp2_with fail
  refine plain_T (fun U => Below w.heap.size w U) [8] (by kernel_rfl) ?_
  have HD : Hid (Below w.heap.size w w.drew) := Lib.hid (Below.refl _ _).drew
  generalize w.drew = wd at HD ⊢
  refine wpAnyT_pick (S := (fun U => Below w.heap.size w U)) (by kernel_rfl) Only.panic Only.keepsIn (w := wd) HD.out [0, 1, 2, 3, 4, 5, 6, 7] 1 _ _ (by kernel_rfl) ?_
  refine PickT.value (d := some 2) (.iface T v) rfl rfl (by kernel_rfl) (fun U hU => (by obtain ⟨h0, h1, h2, h3⟩ := (HI.out.far hU).cells hv; go_simp)) ?_
  refine PickT.value (d := some 3) (.pointer (some ⟨fb, 0, none⟩)) rfl rfl (by kernel_rfl) (fun U hU => (by obtain ⟨h0, h1, h2, h3⟩ := (HI.out.far hU).cells hv; go_simp)) ?_
  refine PickT.value (d := some 4) (.pointer (some ⟨fb, 0, none⟩)) rfl rfl (by kernel_rfl) (fun U hU => (by go_simp)) ?_
  refine PickT.value (d := some 5) (.pointer (some ⟨fb, 0, none⟩)) rfl rfl (by kernel_rfl) (fun U hU => (by go_simp)) ?_
  refine PickT.value (d := some 6) (.map (some mb)) rfl rfl (by kernel_rfl) (fun U hU => (by obtain ⟨h0, h1, h2, h3⟩ := (HI.out.far hU).cells hv; go_simp)) ?_
  refine PickT.value (d := some 7) (.func (.method "alluvium/simfs.name") #[.iface T v] #[]) rfl rfl (by kernel_rfl) (fun U hU => (by go_simp)) ?_
  refine PickT.value (d := some 8) (.func (.method "alluvium/simfs.name") #[.iface T v] #[]) rfl rfl (by kernel_rfl) (fun U hU => (by go_simp)) ?_
  refine PickT.value (d := some 9) (.iface T v) rfl rfl (by kernel_rfl) (fun U hU => (by go_simp)) ?_
  simp only [PickT, Act.put, List.setIfInBounds_toArray, List.set_cons_zero, List.set_cons_succ]
  refine wpAnyT_one (i := 8) (by kernel_rfl) rfl (by kernel_rfl) ?_
  intro K hK
  unfold Oper.wp
  go_simp
  refine (HN.out _ (HI.out.far HD.out).fs.nam).mono ?_; rintro e w2 ⟨rfl, hnm, hg⟩
  have h0 := HI.out.far HD.out
  have hst : Stays wd w2 := Stays.map h0.fs.nam hg
  have hlom := h0.fs.lom
  have HB2 : Hid (Below base w w2) := Lib.hid ((HD.out.mono hbase).grown hg (Nat.le_trans hbase HD.out.size) (fun r e => by cases e; exact hlom))
  have HST2 := Lib.hid ((Stays.below HD.out).trans hst)
  have HI2 : Hid (NamingIn w2 base fb { S with names := c.app S.names } L mb sb cv cvs cb pb c) := Lib.hid ⟨h0.fs.named hg _ hnm, grown_keep h0.cbk hg (fun e => names_ne h0.fs.nam h0.cbk e.symm), grown_keep h0.pbk hg (fun e => names_ne h0.fs.nam h0.pbk e.symm), h0.ne⟩
  clear h0 hst hnm hg
  refine hK _ _ (fun h => absurd h (by decide)) ?_
  clear hK K
  refine wpAnyT_done (by kernel_rfl) ?_ _
  refine only_mk ?_
  clear hna hme hfn HN
  go_wp2_with fail
  obtain ⟨A, kc, hcv, -⟩ := own_row HI2.out.fs.row
  subst hcv
  have HBX : Hid (Boxes w2 fb cb pb #[.map (some mb), .map (some sb), .slice A S.chg.length kc, .int .i64 S.room, .int .i64 S.steps, .int .i64 S.fuse, .bool S.dead] (.iface T v)) := Lib.hid ⟨HI2.out.fs.blk, by rw [← hv]; exact HI2.out.cbk, HI2.out.pbk⟩
  refine plain_T (fun U => Boxes U fb cb pb #[.map (some mb), .map (some sb), .slice A S.chg.length kc, .int .i64 S.room, .int .i64 S.steps, .int .i64 S.fuse, .bool S.dead] (.iface T v)) [10] (by kernel_rfl) ?_
  have HBD : Hid (Below w2.heap.size w2 w2.drew) := Lib.hid (Below.refl _ _).drew
  have HD3 := Lib.hid (HI2.out.far HBD.out)
  have HX3 := Lib.hid (HBX.out.far HBD.out)
  generalize w2.drew = we at HD3 HBD HX3 ⊢
  refine wpAnyT_pick (S := (fun U => Boxes U fb cb pb #[.map (some mb), .map (some sb), .slice A S.chg.length kc, .int .i64 S.room, .int .i64 S.steps, .int .i64 S.fuse, .bool S.dead] (.iface T v))) (by kernel_rfl) Only.panic Only.keepsIn (w := we) HX3.out [0, 1, 2, 3, 4, 5] 5 _ _ (by kernel_rfl) ?_
  refine PickT.value (d := some 11) (.pointer (some ⟨fb, 0, none⟩)) rfl rfl (by kernel_rfl) (fun U hU => (by have h0 : U.cell? ⟨pb, 0, none⟩ = some (.pointer (some ⟨fb, 0, none⟩)) := cell_of_row _ _ _ _ _ _ hU.p; go_simp)) ?_
  refine PickT.value (d := some 12) (.pointer (some ⟨fb, 0, none⟩)) rfl rfl (by kernel_rfl) (fun U hU => (by have h0 : U.cell? ⟨pb, 0, none⟩ = some (.pointer (some ⟨fb, 0, none⟩)) := cell_of_row _ _ _ _ _ _ hU.p; go_simp)) ?_
  refine PickT.value (d := some 13) (.pointer (some ⟨fb, 0, none⟩)) rfl rfl (by kernel_rfl) (fun U hU => (by go_simp)) ?_
  refine PickT.value (d := some 14) (.pointer (some ⟨fb, 2, none⟩)) rfl rfl (by kernel_rfl) (fun U hU => (by go_simp)) ?_
  refine PickT.value (d := some 15) (.slice A S.chg.length kc) rfl rfl (by kernel_rfl) (fun U hU => (by have h0 : U.cell? ⟨fb, 2, none⟩ = some (.slice A S.chg.length kc) := cell_of_row _ _ _ _ _ _ hU.f; go_simp)) ?_
  refine PickT.value (d := some 16) (.iface T v) rfl rfl (by kernel_rfl) (fun U hU => (by have h0 : U.cell? ⟨cb, 0, none⟩ = some (.iface T v) := cell_of_row _ _ _ _ _ _ hU.c; go_simp)) ?_
  simp only [PickT, Act.put, List.setIfInBounds_toArray, List.set_cons_zero, List.set_cons_succ]
  refine wpAnyT_one (i := 6) (by kernel_rfl) rfl (by kernel_rfl) ?_
  intro K hK
  unfold Oper.wp
  go_simp
  have HAL := Lib.hid ((Below.refl we.heap.size we).alloc (Nat.le_refl _) (.cells #[.iface T v] 58))
  have HD4 := Lib.hid (HD3.out.far HAL.out); have HX4 := Lib.hid (HX3.out.far HAL.out)
  have hbt : ∀ j, j < 1 → (#[Value.iface T v])[j]? = some c.val := fun j hj => by
    obtain rfl : j = 0 := by omega
    rw [hv]; rfl
  have h1c : ∀ (_ _ : Nat), (c.val).oneCell' = true := fun _ _ => by rw [hv]; rfl
  have hbs : base ≤ (we.alloc (.cells #[.iface T v] 58)).heap.size := by
    have h1 := HBD.out.size
    have h2 := HB2.out.size
    rw [World.size_alloc]
    omega
  refine hK _ _ (fun _ => HX4.out) ?_
  clear hK K
  refine wpAnyT_one (i := 7) (by kernel_rfl) rfl (by kernel_rfl) ?_
  intro K hK
  refine wp_append_row _ _ _ 48 58 rfl 1 16 _ Try.underlying48 infoNm rfl (by decide) (by decide) base (.slice A S.chg.length kc) S.chg.length (rcells 1 (nx S.chg) S.chg.length) rfl HD4.out.fs.row ⟨we.heap.size, 0, none⟩ 1 1 (fun _ _ => c.val) h1c rfl (row_built 1 _ we _ _ hbt) (by omega) hbs ?_
  intro v5 w5 hown5 hg5 _
  rw [nx_snoc] at hown5
  have hrow4 := HD4.out.fs.row
  have hx5 : Boxes w5 fb cb pb #[.map (some mb), .map (some sb), .slice A S.chg.length kc, .int .i64 S.room, .int .i64 S.steps, .int .i64 S.fuse, .bool S.dead] (.iface T v) :=
    ⟨(hg5.block fb (Array.getElem?_eq_some_iff.1 HX4.out.f).1 (fun e => own_ne hrow4 HX4.out.f (by decide) e.symm)).trans HX4.out.f,
      (hg5.block cb (Array.getElem?_eq_some_iff.1 HX4.out.c).1 (fun e => HD4.out.ne e.symm)).trans HX4.out.c,
      (hg5.block pb (Array.getElem?_eq_some_iff.1 HX4.out.p).1 (fun e => own_ne hrow4 HX4.out.p (by decide) e.symm)).trans HX4.out.p⟩
  have HX5 := Lib.hid hx5
  have hlen : S.chg.length + 1 = (S.chg ++ [c]).length := by simp
  rw [hlen] at hown5
  obtain ⟨A5, c5, rfl, -⟩ := own_row hown5
  have hB5 : Below base w w5 := ((HB2.out.trans ((HBD.out.trans (HAL.out.mono HBD.out.size)).mono (Nat.le_trans hbase HB2.out.size))).mono (Nat.le_refl _)).grown hg5 (by have h1 := HBD.out.size; have h2 := HB2.out.size; have h3 := HAL.out.size; omega) (fun r e => (hrow4.lt r e).1)
  have hS5 : Stays w w5 := ((HST2.out.trans (Stays.below HBD.out)).trans (Stays.below HAL.out)).trans (Stays.row hrow4 (.inl rfl) hg5)
  have hfs := HD4.out.fs.pushed hg5 c hown5
  have HFIN : Hid (FsL (w5.setCell ⟨fb, 2, none⟩ (.slice A5 (S.chg ++ [c]).length c5)) base fb (S.naming c) L ∧ Below base w (w5.setCell ⟨fb, 2, none⟩ (.slice A5 (S.chg ++ [c]).length c5)) ∧ Stays w (w5.setCell ⟨fb, 2, none⟩ (.slice A5 (S.chg ++ [c]).length c5))) := Lib.hid
    ⟨⟨mb, sb, _, cvs, hfs⟩, hB5.grown (grown_setCell w5 fb 2 _) (Nat.le_trans hbase hB5.size) (fun r e => by cases e; exact HD4.out.fs.lo), hS5.trans (Stays.grown (grown_setCell w5 fb 2 _) (fun cs T fr e => by rw [HX5.out.f] at e; cases e; exact .inl rfl))⟩
  simp only [List.length_append, List.length_singleton] at HFIN
  clear hrow4 hx5 hown5 hg5 hlen hB5 hS5 hfs hbt h1c hbs
  refine hK _ _ (fun _ => HX5.out) ?_
  clear hK K
  refine wpAnyT_pick (S := (fun U => Boxes U fb cb pb #[.map (some mb), .map (some sb), .slice A S.chg.length kc, .int .i64 S.room, .int .i64 S.steps, .int .i64 S.fuse, .bool S.dead] (.iface T v))) (by kernel_rfl) Only.panic Only.keepsIn (w := w5) HX5.out [8, 9] 1 _ _ (by kernel_rfl) ?_
  refine PickT.value (d := some 19) (.pointer (some ⟨fb, 0, none⟩)) rfl rfl (by kernel_rfl) (fun U hU => (by go_simp)) ?_
  refine PickT.value (d := some 20) (.pointer (some ⟨fb, 2, none⟩)) rfl rfl (by kernel_rfl) (fun U hU => (by go_simp)) ?_
  simp only [PickT, Act.put, List.setIfInBounds_toArray]
  have z2 : w5.cell? ⟨fb, 2, none⟩ = some (.slice A S.chg.length kc) := cell_of_row _ _ _ _ _ _ HX5.out.f
  have f2 : w5.frozen? ⟨fb, 2, none⟩ = false := frozen_of_row _ _ _ _ _ HX5.out.f
  refine wpAnyT_one (i := 10) (by kernel_rfl) rfl (by kernel_rfl) ?_
  intro K hK
  unfold Oper.wp
  go_simp
  clear z2 f2
  refine hK _ _ (fun h => absurd h (by decide)) ?_
  clear hK K
  refine wpAnyT_done (by kernel_rfl) ?_ _
  refine only_mk ?_
  go_wp2_with fail
  go_end0
  exact ⟨rfl, HFIN.out⟩
end Go.Proofs.Ytgpmomjdjakklaa
