import Derived.Test.YtfibapfehgglhaaGreatDoorSfL
/-
  Sync.
-/
namespace Go.Proofs.YtfibapfehgglhaaGreatDoor
open Go.RowKit
/-- a file is whole -/
theorem FsIn.rewhole {w w2 : World} {base fb : Nat} {S : Sf.St} {L : Nat → Prop} {mb sb : Nat} {cv : Value} {cvs : Nat → Value} (h : FsIn w base fb S L mb sb cv cvs) {x : Nat} (hx : L x) (hg : w.grownBy w2 (some x)) (b : ByteArray)
    (hb : w2.heap[x]? = some (.cells #[.string b, .string b, .slice none 0 0] 84 (0, 0))) : FsIn w2 base fb (S.file x (Sf.whole b)) L mb sb cv (fun k => if k = x then .slice none 0 0 else cvs k) := by
  have hbx := (h.fil x hx).blk
  refine ⟨h.lo, h.lom, h.los, h.ne, grown_keep h.blk hg ?_, h.nam.kept hg (fun e => by cases e; exact names_ne h.nam hbx rfl), h.syn.kept hg (fun e => by cases e; exact names_ne h.syn hbx rfl), row_kept h.row hg (fun r e => by cases e; exact own_ne h.row hbx (by decide)), fun k hk => ?_, ?_⟩
  · rintro rfl
    rw [h.blk] at hbx
    injection hbx with hbx
    injection hbx with _ hbx
    exact absurd hbx (by decide)
  · by_cases e : k = x
    · subst e
      rw [file_same, if_pos rfl]
      exact ⟨(h.fil k hk).lo, hb, World.ownsRow_nil _ _ _ _⟩
    · rw [file_other e, if_neg e]
      exact (h.fil k hk).other hg e (own_ne (h.fil k hk).row hbx (by decide))
  · intro a b2 ha hb2 hab r hr
    have hr : (if a = x then Value.slice none 0 0 else cvs a).ownBlock = some r := hr
    show (if b2 = x then Value.slice none 0 0 else cvs b2).ownBlock ≠ some r
    split at hr
    · cases hr
    · split
      · intro e; cases e
      · exact h.apart a b2 ha hb2 hab r hr
set_option maxRecDepth 100000 in
set_option maxHeartbeats 1000000 in
theorem syncDo_any {w : World} {base fb : Nat} {S : Sf.St} {L : Nat → Prop} (h : FsL w base fb S L) (hbase : base ≤ w.heap.size) {x : Nat} (hx : L x) (xb : Nat) (hxb : w.heap[xb]? = some (.cells #[.pointer (some ⟨x, 0, none⟩)] 79 (0, 0))) :
    Calls Tryz.prog 93 #[.pointer (some ⟨xb, 0, none⟩)] w fun e w' => e = .returned (.tuple #[]) ∧ FsL w' base fb (S.file x (Sf.whole (S.F x).bytes)) L ∧ Below base w w' ∧ Stays w w' := by
  obtain ⟨mb, sb, cv, cvs, h⟩ := h
  have HI := Lib.hid h; have HXB := Lib.hid hxb; have HBK := Lib.hid (h.fil x hx).blk
  clear h hxb
  go_enter Tryz.func93, Tryz.ntmps93
  go_wp2_with fail
  refine plain_T (fun U => Below w.heap.size w U) [7] (by kernel_rfl) ?_
  have HD : Hid (Below w.heap.size w w.drew) := Lib.hid (Below.refl _ _).drew
  generalize w.drew = wd at HD ⊢
  refine zq (S := (fun U => Below w.heap.size w U)) (w := wd) HD.out [0, 1, 2, 3, 4] 3 ?_
  refine zp 1 (.pointer (some ⟨x, 0, none⟩)) ?_ (hy := fun U hU => (by have h0 : U.cell? ⟨xb, 0, none⟩ = some (.pointer (some ⟨x, 0, none⟩)) := cell_of_row _ _ _ _ _ _ (heap_keep HXB.out hU); go_simp))
  refine zp 2 (.pointer (some ⟨x, 0, none⟩)) ?_ (hy := fun U hU => (by have h0 : U.cell? ⟨xb, 0, none⟩ = some (.pointer (some ⟨x, 0, none⟩)) := cell_of_row _ _ _ _ _ _ (heap_keep HXB.out hU); go_simp))
  refine zp 3 (.pointer (some ⟨x, 0, none⟩)) ?_
  refine zp 4 (.pointer (some ⟨x, 0, none⟩)) ?_
  refine zp 5 (.string (S.F x).bytes) ?_ (hy := fun U hU => (by have h0 : U.cell? ⟨x, 0, none⟩ = some (.string (S.F x).bytes) := cell_of_row _ _ _ _ _ _ (heap_keep HBK.out hU); go_simp))
  simp only [zx]
  refine zo 5 ?_
  intro K hK
  unfold Oper.wp
  go_simp
  refine (whole_any (S.F x).bytes _).mono ?_; rintro e w2 ⟨rfl, hb2⟩
  have HB2 := Lib.hid (below_step HD.out hb2)
  have HBK2 := Lib.hid (heap_keep HBK.out HB2.out)
  clear hb2
  refine hK _ _ (fun _ => HB2.out) ?_
  clear hK K
  refine zq (S := (fun U => Below w.heap.size w U)) (w := w2) HB2.out [6] 1 ?_
  refine zp 7 (.pointer (some ⟨x, 0, none⟩)) ?_
  simp only [zx]
  have z0 : w2.cell? ⟨x, 0, none⟩ = some (.string (S.F x).bytes) := cell_of_row _ _ _ _ _ _ HBK2.out
  have z1 : w2.cell? ⟨x, 1, none⟩ = some (.string (S.F x).synced) := cell_of_row _ _ _ _ _ _ HBK2.out
  have z2 : w2.cell? ⟨x, 2, none⟩ = some (cvs x) := cell_of_row _ _ _ _ _ _ HBK2.out
  have f0 : w2.frozen? ⟨x, 0, none⟩ = false := frozen_of_row _ _ _ _ _ HBK2.out
  have f1 : w2.frozen? ⟨x, 1, none⟩ = false := frozen_of_row _ _ _ _ _ HBK2.out
  have f2 : w2.frozen? ⟨x, 2, none⟩ = false := frozen_of_row _ _ _ _ _ HBK2.out
  refine zo 7 ?_
  intro K hK
  unfold Oper.wp
  go_simp
  clear z0 z1 z2 f0 f1 f2
  refine hK _ _ (fun h => absurd h (by decide)) ?_
  clear hK K
  have hg := grown_trans (grown_trans (grown_setCell w2 x 0 (.string (S.F x).bytes)) (grown_setCell _ x 1 (.string (S.F x).bytes))) (grown_setCell _ x 2 (.slice none 0 0))
  have hblk := heap_setCell_same _ x 2 _ _ (.slice none 0 0) (heap_setCell_same _ x 1 _ _ (.string (S.F x).bytes) (heap_setCell_same _ x 0 _ _ (.string (S.F x).bytes) HBK2.out))
  have hfs := (HI.out.far HB2.out).rewhole hx hg (S.F x).bytes (hblk.trans rfl)
  have hlx : base ≤ x := (HI.out.fil x hx).lo
  have HFIN := Lib.hid (And.intro (show FsL _ base fb _ L from ⟨mb, sb, cv, _, hfs⟩) (And.intro ((HB2.out.mono hbase).grown hg (Nat.le_trans hbase HB2.out.size) (fun r e => by cases e; exact hlx)) ((Stays.below HB2.out).trans (Stays.grown hg (fun cs T fr e => by rw [HBK2.out] at e; cases e; exact .inr (.inl rfl))))))
  clear hg hblk hfs hlx
  refine wpAnyT_done (by kernel_rfl) ?_ _
  refine only_mk ?_
  go_wp2_with fail
  go_end0
  exact ⟨rfl, HFIN.out⟩
set_option maxRecDepth 100000 in
set_option maxHeartbeats 2000000 in
theorem Sync_any {w : World} {base fb B N : Nat} {S : Sf.St} (h : FsAt w base fb S) (hbase : base ≤ w.heap.size) (hok : Sf.StOk B N S) (hN : N ≤ 999) (s : ByteArray) (hs : s.size ≤ maxLen) :
    Calls Tryz.prog 49 #[.pointer (some ⟨fb, 0, none⟩), .string s] w fun e w' => e = .returned (.int .i64 (S.sync s).2) ∧ Left w base fb (S.sync s).1 w' := by
  have HFI := Lib.hid (find_any h hok.nice s hs)
  have HL : Hid (∀ v : Value, Left w base fb S (w.alloc (.cells #[v] 79))) := Lib.hid (fun v => by
    have hb2 := (Below.refl w.heap.size w).alloc (Nat.le_refl _) (.cells #[v] 79)
    exact ⟨h.far hb2, hb2.mono hbase, Stays.below hb2⟩)
  rcases Sf.find_cases S s with ⟨x, e, hd, hl⟩ | ⟨e, hd, hl⟩ | ⟨e, hd⟩
  · simp only [e, ptrV, Option.map_some] at HFI
    obtain ⟨w2, hw2⟩ : ∃ w2, w2 = w.alloc (.cells #[.pointer (some ⟨x, 0, none⟩)] 79) := ⟨_, rfl⟩
    obtain ⟨xb, hxb⟩ : ∃ xb, xb = w.heap.size := ⟨_, rfl⟩
    have hb2 : Below w.heap.size w w2 := by rw [hw2]; exact (Below.refl _ _).alloc (Nat.le_refl _) _
    have hx2 : w2.heap[xb]? = some (.cells #[.pointer (some ⟨x, 0, none⟩)] 79 (0, 0)) := by rw [hw2, hxb]; exact heap_alloc_new w _
    obtain ⟨mb, sb, cv, cvs, hfs⟩ := FsL.far h hb2
    have hlive := hok.lives hl
    have HSTEP := Lib.hid (stepped_of (w2 := w) (S2 := S.tick.file x (Sf.whole (S.F x).bytes)) hfs (Nat.le_trans hbase hb2.size) hok (by omega) 93 #[.pointer (some ⟨xb, 0, none⟩)] (enters_of Tryz.func93 (by kernel_rfl) rfl) (hb2.mono hbase) (Stays.below hb2) (fun U hg hU hbU => by
      refine syncDo_any (S := S.tick) ⟨mb, sb, cv, cvs, hU⟩ hbU hlive xb (grown_keep hx2 hg (fun e => ?_))
      rw [e, hfs.blk] at hx2
      injection hx2 with hx2
      injection hx2 with _ hx2
      exact absurd hx2 (by decide)))
    have e3 : S.sync s = S.fileDo x (Sf.whole (S.F x).bytes) := by unfold Sf.St.sync; rw [hd, hl]; rfl
    rw [e3]
    clear h hok e hd hl hb2 hx2 hfs hlive e3 HL
    have hmf := run_make_func
    go_enter Tryz.func49, Tryz.ntmps49
    go_wp2_with fail
    refine HFI.out.mono ?_; rintro e w9 ⟨rfl, hw9⟩
    rw [hw9]
    clear hw9
    go_wp2_with fail
    rw [← hw2, ← hxb]
    clear hw2 hxb
    refine HSTEP.out.mono ?_; rintro e w4 hst
    obtain ⟨he, hleft⟩ := hst.file
    subst he
    have HLE := Lib.hid hleft
    clear hst hleft
    go_wp2_with fail
    go_ret
    exact ⟨rfl, HLE.out⟩
  all_goals
    simp only [e, ptrV, Option.map_none] at HFI
    have HLN := Lib.hid (HL.out (.pointer none))
    have er : S.sync s = (S, (S.find s).2) := by
      rw [e]
      unfold Sf.St.sync
      first
        | (rw [hd, hl]; rfl)
        | (rw [hd]; rfl)
    rw [er, e]
    clear h hok e er HL
    go_enter Tryz.func49, Tryz.ntmps49
    go_wp2_with fail
    refine HFI.out.mono ?_; rintro e w9 ⟨rfl, hw9⟩
    rw [hw9]
    clear hw9
    go_wp2_with fail
    go_ret
    exact ⟨rfl, HLN.out⟩
end Go.Proofs.YtfibapfehgglhaaGreatDoor
/-
  The same files, in a map of their own.
-/
namespace Go.Proofs.YtfibapfehgglhaaGreatDoor
open Go.RowKit Go.Maps
theorem run_makeMap_room {P : Program} {t k e : TypeId} (ht : P.underlying t = some (.map k e)) (a : Int) (w : World) : (Instr.makeMap t (some (.int .i64 a))).run P w = .ok (.map (some w.heap.size)) (w.alloc (.map #[] 0)) := by
  simp [Instr.makeMap, run_underlying ht, asInt, asIntOf, Result.andThen]
theorem ptrV_inv {v : Value} {z : DataW Unit × List MemPlace} (h : ptrE v = some z) : ∃ c, v = ptrV c := by
  rcases ptrE_inv h with ⟨x, rfl, -⟩ | ⟨rfl, -⟩
  · exact ⟨some x, rfl⟩
  · exact ⟨none, rfl⟩
theorem str_inv {key : Value} {kl : Lit} (h : keyOf Tryz.prog 9 key = some kl) : ∃ s : ByteArray, key = .string s ∧ kl = Sf.key s ∧ s.size ≤ maxLen := by
  obtain ⟨s, e1, e2, e3⟩ := Go.WideMaps.string_of_keyOf Tryz.underlying9 h
  exact ⟨s, e1, e2, e3⟩
set_option maxRecDepth 100000 in
set_option maxHeartbeats 1000000 in
theorem anew_any (b : Nat) (d : Sf.D) (w : World) (hown0 : NamesAt w b d) (hz : Go.Maps.size d ≤ 1000) :
    Calls Tryz.prog 140 #[.map (some b)] w fun e w' => e = .returned (.map (some w.heap.size)) ∧ NamesAt w' w.heap.size d ∧ Below w.heap.size w w' := by
  have hown := NamesAt.exact hown0
  have hlen := fun ty => hown.len Tryz.underlying48 ty
  have hmm := fun (a : Int) U => run_makeMap_room (P := Tryz.prog) Tryz.underlying48 a U
  have hbl := hown.lt
  have e1 : (w.alloc (.map #[] 0)).heap.size = w.heap.size + 1 := by simp
  clear hown0
  go_enter Tryz.func140, Tryz.ntmps140
  go_wp2_with (first
    | (at_range; refine wpList_range_own _ rfl _ 48 rfl 9 79 law Tryz.underlying48 _ b _ _ rfl (hown.alloc _) ?_; intro w0 hrg0 hg0 hs0)
    | go_in)
  go_frame
  rw [e1] at hrg0 hs0 ⊢
  go_loopw [4, 5] (fun _ _ wr => ∃ (left : Lit → Bool) (cnt : Nat) (Dout : Sf.D), wr.ranges Tryz.prog 9 ptrE b (w.heap.size + 1) (Go.Maps.size d) d left cnt ∧ cnt ≤ Go.Maps.size d ∧
      wr.ownsMap Tryz.prog 9 ptrE w.heap.size (Go.Maps.size d - cnt) Dout ∧ Agree Dout d left ∧ Below w.heap.size w wr)
    (fun _ _ wr => wr.rangeLeft b (w.heap.size + 1))
  case atStart =>
    exact ⟨_, _, .map [], hrg0, Nat.le_refl _, ((World.ownsMap_made _ _ _ _).kept hg0 (by simp)).mono (Nat.zero_le _), agree_start d, ((Below.refl _ _).alloc (Nat.le_refl _) _).grown hg0 (by simp) (fun j hj => by cases hj)⟩
  case round =>
    obtain ⟨left, cnt, Dout, hrg, hcs, hout, hA, hnx⟩ := hrel
    go_wp2_with (first
      | (at_next; refine wpList_next_ranges _ rfl _ rfl 9 law ptrE Value.string ptrV (fun key kl hk => by obtain ⟨s, e, -⟩ := str_inv hk; exact ⟨s, e⟩) (fun v y hv => ptrV_inv hv) b (w.heap.size + 1) _ _ _ _ rfl hrg ?_ ?_)
      | go_in)
    · intro hc0 hl0
      go_wp2
      go_ret
      subst hc0
      have e := agree_end hA hl0 (hout.canon law) (hown.canon law)
      subst e
      exact ⟨rfl, hout.mono (by omega), hnx⟩
    · intro x c kl yd yp w1 cnt1 hkey hlx hv hat hrg1 hlt hg1 hs1 hen
      have hout1 := hout.kept hg1 (by simp)
      clear hs1
      go_wp2_with (first
        | (at_mapUpdate; refine wpList_mapUpdate_own _ rfl _ _ _ 48 rfl 9 79 law Tryz.underlying48 _ w.heap.size _ _ rfl hout1 (by unfold maxLen; omega) _ _ _ rfl rfl hkey _ _ hv ?_; intro w2 hout2 hg2; go_frame)
        | go_in)
      have hrg2 := hrg1.kept hg2 (fun e => absurd (Option.some.inj e) (Nat.ne_of_lt hbl)) (fun e => absurd (Option.some.inj e) (Nat.succ_ne_self _))
      go_roundw
      case rel =>
        exact ⟨_, cnt1, _, hrg2, by omega, hout2.mono (by omega), agree_step hA hout.isMap (by obtain ⟨s, -, rfl, -⟩ := str_inv hkey; exact Sf.key_lit s) hat,
          (hnx.grown hg1 hnx.size (fun j hj => by cases hj; exact Nat.le_succ _)).grown hg2 (Nat.le_trans hnx.size hg1.size) (fun j hj => by cases hj; exact Nat.le_refl _)⟩
      case measure => rw [hrg2.left_eq, hrg.left_eq]; exact hlt
end Go.Proofs.YtfibapfehgglhaaGreatDoor
/-
  SyncDir.
-/
namespace Go.Proofs.YtfibapfehgglhaaGreatDoor
open Go.RowKit
/-- the names are synced -/
def Sf.St.dir (S : Sf.St) : Sf.St := { S with synced := S.names, chg := [] }
theorem FsIn.dir {w w2 : World} {base fb : Nat} {S : Sf.St} {L : Nat → Prop} {mb sb : Nat} {cv : Value} {cvs : Nat → Value} (h : FsIn w base fb S L mb sb cv cvs) (hg : w.grownBy w2 (some fb)) (nb : Nat) (hnb : base ≤ nb) (hne : mb ≠ nb) (hs : NamesAt w nb S.names)
    (hb : w2.heap[fb]? = some (.cells #[.map (some mb), .map (some nb), .slice none 0 0, .int .i64 S.room, .int .i64 S.steps, .int .i64 S.fuse, .bool S.dead] 51 (0, 0))) :
    FsIn w2 base fb S.dir L mb nb (.slice none 0 0) cvs :=
  ⟨h.lo, h.lom, hnb, hne, hb, h.nam.kept hg (fun e => by cases e; exact names_ne h.nam h.blk rfl), hs.kept hg (fun e => by cases e; exact names_ne hs h.blk rfl), World.ownsRow_nil _ _ _ _,
    fun x hx => (h.fil x hx).other hg (by
      rintro rfl
      have h1 := (h.fil _ hx).blk
      rw [h.blk] at h1
      injection h1 with h1
      injection h1 with h1 h2
      exact absurd h2 (by decide)) (own_ne (h.fil x hx).row h.blk (by decide)), h.apart⟩
set_option maxRecDepth 100000 in
set_option maxHeartbeats 1000000 in
theorem syncDirDo_any {w : World} {base fb : Nat} {S : Sf.St} {L : Nat → Prop} (h : FsL w base fb S L) (hbase : base ≤ w.heap.size) (hz : Go.Maps.size S.names ≤ 1000) (bb : Nat) (hbb : w.heap[bb]? = some (.cells #[.pointer (some ⟨fb, 0, none⟩)] 28 (0, 0))) :
    Calls Tryz.prog 139 #[.pointer (some ⟨bb, 0, none⟩)] w fun e w' => e = .returned (.tuple #[]) ∧ FsL w' base fb S.dir L ∧ Below base w w' ∧ Stays w w' := by
  obtain ⟨mb, sb, cv, cvs, h⟩ := h
  have HI := Lib.hid h; have HXB := Lib.hid hbb; have HBK := Lib.hid h.blk
  clear h hbb
  go_enter Tryz.func139, Tryz.ntmps139
  go_wp2_with fail
  refine plain_T (fun U => U.cell? ⟨bb, 0, none⟩ = some (.pointer (some ⟨fb, 0, none⟩)) ∧ U.cell? ⟨fb, 0, none⟩ = some (.map (some mb))) [] (by kernel_rfl) ?_
  have HD : Hid (Below w.heap.size w w.drew) := Lib.hid (Below.refl _ _).drew
  have HNE : Hid (bb ≠ fb) := Lib.hid (fun e => by
    have h1 := HXB.out
    rw [e, HBK.out] at h1
    injection h1 with h1
    injection h1 with h1 h2
    exact absurd h2 (by decide))
  generalize w.drew = wd at HD ⊢
  have HSD : Hid ((fun U => U.cell? ⟨bb, 0, none⟩ = some (.pointer (some ⟨fb, 0, none⟩)) ∧ U.cell? ⟨fb, 0, none⟩ = some (.map (some mb))) wd) := Lib.hid ⟨cell_of_row _ _ _ _ _ _ (heap_keep HXB.out HD.out), cell_of_row _ _ _ _ _ _ (heap_keep HBK.out HD.out)⟩
  refine zq (S := (fun U => U.cell? ⟨bb, 0, none⟩ = some (.pointer (some ⟨fb, 0, none⟩)) ∧ U.cell? ⟨fb, 0, none⟩ = some (.map (some mb)))) (w := wd) HSD.out [0, 1, 2, 3, 4, 5] 7 ?_
  refine zp 1 (.pointer (some ⟨fb, 0, none⟩)) ?_ (hy := fun U hU => (by have h0 := hU.1; go_simp))
  refine zp 2 (.pointer (some ⟨fb, 0, none⟩)) ?_ (hy := fun U hU => (by have h0 := hU.1; go_simp))
  refine zp 3 (.pointer (some ⟨fb, 0, none⟩)) ?_ (hy := fun U hU => (by have h0 := hU.1; go_simp))
  refine zp 4 (.pointer (some ⟨fb, 0, none⟩)) ?_
  refine zp 5 (.pointer (some ⟨fb, 0, none⟩)) ?_
  refine zp 6 (.map (some mb)) ?_ (hy := fun U hU => (by have h0 := hU.2; go_simp))
  simp only [zx]
  refine zo 6 ?_
  intro K hK
  unfold Oper.wp
  go_simp
  refine (anew_any mb S.names wd (HI.out.far HD.out).nam hz).mono ?_; rintro e w2 ⟨rfl, hnm, hb2⟩
  have hlt : mb < wd.heap.size := (HI.out.far HD.out).nam.lt
  obtain ⟨nb, hnb⟩ : ∃ nb, nb = wd.heap.size := ⟨_, rfl⟩
  rw [← hnb] at hnm hlt ⊢
  have hbn : base ≤ nb := by rw [hnb]; exact Nat.le_trans hbase HD.out.size
  have HN := Lib.hid (And.intro hbn (And.intro (Nat.ne_of_lt hlt) hnm))
  have HB2 := Lib.hid (below_step HD.out hb2)
  have HBK2 := Lib.hid (heap_keep HBK.out HB2.out)
  have HXB2 := Lib.hid (heap_keep HXB.out HB2.out)
  clear hb2 hbn hlt hnm hnb
  have HS2 : Hid ((fun U => U.cell? ⟨bb, 0, none⟩ = some (.pointer (some ⟨fb, 0, none⟩)) ∧ U.cell? ⟨fb, 0, none⟩ = some (.map (some mb))) w2) := Lib.hid ⟨cell_of_row _ _ _ _ _ _ HXB2.out, cell_of_row _ _ _ _ _ _ HBK2.out⟩
  refine hK _ _ (fun _ => HS2.out) ?_
  clear hK K
  refine zq (S := (fun U => U.cell? ⟨bb, 0, none⟩ = some (.pointer (some ⟨fb, 0, none⟩)) ∧ U.cell? ⟨fb, 0, none⟩ = some (.map (some mb)))) (w := w2) HS2.out [7, 8] 4 ?_
  refine zp 8 (.pointer (some ⟨fb, 0, none⟩)) ?_
  refine zp 9 (.pointer (some ⟨fb, 1, none⟩)) ?_
  simp only [zx]
  have z0 : w2.cell? ⟨fb, 1, none⟩ = some (.map (some sb)) := cell_of_row _ _ _ _ _ _ HBK2.out
  have f0 : w2.frozen? ⟨fb, 1, none⟩ = false := frozen_of_row _ _ _ _ _ HBK2.out
  refine zo 9 ?_
  intro K hK
  unfold Oper.wp
  go_simp
  clear z0 f0
  have HBK3 := Lib.hid (heap_setCell_same _ fb 1 _ _ (.map (some nb)) HBK2.out)
  have HXB3 := Lib.hid (grown_keep HXB2.out (grown_setCell w2 fb 1 (.map (some nb))) HNE.out)
  have HS3 : Hid ((fun U => U.cell? ⟨bb, 0, none⟩ = some (.pointer (some ⟨fb, 0, none⟩)) ∧ U.cell? ⟨fb, 0, none⟩ = some (.map (some mb))) (w2.setCell ⟨fb, 1, none⟩ (.map (some nb)))) := Lib.hid ⟨cell_of_row _ _ _ _ _ _ HXB3.out, cell_of_row _ _ _ _ _ _ HBK3.out⟩
  refine hK _ _ (fun _ => HS3.out) ?_
  clear hK K
  refine zq (S := (fun U => U.cell? ⟨bb, 0, none⟩ = some (.pointer (some ⟨fb, 0, none⟩)) ∧ U.cell? ⟨fb, 0, none⟩ = some (.map (some mb)))) (w := _) HS3.out [10, 11] 1 ?_
  refine zp 10 (.pointer (some ⟨fb, 0, none⟩)) ?_
  refine zp 11 (.pointer (some ⟨fb, 2, none⟩)) ?_
  simp only [zx]
  have z0 : (w2.setCell ⟨fb, 1, none⟩ (.map (some nb))).cell? ⟨fb, 2, none⟩ = some cv := cell_of_row _ _ _ _ _ _ HBK3.out
  have f0 : (w2.setCell ⟨fb, 1, none⟩ (.map (some nb))).frozen? ⟨fb, 2, none⟩ = false := frozen_of_row _ _ _ _ _ HBK3.out
  refine zo 12 ?_
  intro K hK
  unfold Oper.wp
  go_simp
  clear z0 f0
  have HBK4 := Lib.hid (heap_setCell_same _ fb 2 _ _ (.slice none 0 0) HBK3.out)
  have HXB4 := Lib.hid (grown_keep HXB3.out (grown_setCell _ fb 2 (.slice none 0 0)) HNE.out)
  have HS4 : Hid ((fun U => U.cell? ⟨bb, 0, none⟩ = some (.pointer (some ⟨fb, 0, none⟩)) ∧ U.cell? ⟨fb, 0, none⟩ = some (.map (some mb))) ((w2.setCell ⟨fb, 1, none⟩ (.map (some nb))).setCell ⟨fb, 2, none⟩ (.slice none 0 0))) := Lib.hid ⟨cell_of_row _ _ _ _ _ _ HXB4.out, cell_of_row _ _ _ _ _ _ HBK4.out⟩
  refine hK _ _ (fun _ => HS4.out) ?_
  clear hK K
  have hg := grown_trans (grown_setCell w2 fb 1 (.map (some nb))) (grown_setCell _ fb 2 (.slice none 0 0))
  have hblk := heap_setCell_same _ fb 2 _ _ (.slice none 0 0) (heap_setCell_same _ fb 1 _ _ (.map (some nb)) HBK2.out)
  have hfs := (HI.out.far HB2.out).dir hg nb HN.out.1 HN.out.2.1 HN.out.2.2 (hblk.trans rfl)
  have hlx : base ≤ fb := HI.out.lo
  have HFIN := Lib.hid (And.intro (show FsL _ base fb _ L from ⟨mb, nb, _, cvs, hfs⟩) (And.intro ((HB2.out.mono hbase).grown hg (Nat.le_trans hbase HB2.out.size) (fun r e => by cases e; exact hlx)) ((Stays.below HB2.out).trans (Stays.grown hg (fun cs T fr e => by rw [HBK2.out] at e; cases e; exact .inl rfl)))))
  clear hg hblk hfs hlx
  refine wpAnyT_done (by kernel_rfl) ?_ _
  refine only_mk ?_
  go_wp2_with fail
  go_end0
  exact ⟨rfl, HFIN.out⟩
def Sf.St.dirDo (S : Sf.St) : Sf.St × Int := if S.dead then (S, 13) else if S.fuse = 0 then (S.kill, 13) else (S.tick.dir, 0)
set_option maxRecDepth 100000 in
set_option maxHeartbeats 2000000 in
theorem SyncDir_any {w : World} {base fb B N : Nat} {S : Sf.St} (h : FsAt w base fb S) (hbase : base ≤ w.heap.size) (hok : Sf.StOk B N S) (hN : N ≤ 999) :
    Calls Tryz.prog 89 #[.pointer (some ⟨fb, 0, none⟩)] w fun e w' => e = .returned (.int .i64 S.dirDo.2) ∧ Left w base fb S.dirDo.1 w' := by
  obtain ⟨w2, hw2⟩ : ∃ w2, w2 = w.alloc (.cells #[.pointer (some ⟨fb, 0, none⟩)] 28) := ⟨_, rfl⟩
  obtain ⟨bb, hbb⟩ : ∃ bb, bb = w.heap.size := ⟨_, rfl⟩
  have hb2 : Below w.heap.size w w2 := by rw [hw2]; exact (Below.refl _ _).alloc (Nat.le_refl _) _
  have hx2 : w2.heap[bb]? = some (.cells #[.pointer (some ⟨fb, 0, none⟩)] 28 (0, 0)) := by rw [hw2, hbb]; exact heap_alloc_new w _
  obtain ⟨mb, sb, cv, cvs, hfs⟩ := FsL.far h hb2
  have HL : Hid (Left w base fb S w2) := Lib.hid ⟨⟨mb, sb, cv, cvs, hfs⟩, hb2.mono hbase, Stays.below hb2⟩
  have hz : Go.Maps.size S.tick.names ≤ 1000 := Nat.le_trans hok.nice.few (by omega)
  have HSTEP := Lib.hid (stepped_of (w2 := w) (S2 := S.tick.dir) hfs (Nat.le_trans hbase hb2.size) hok (by omega) 139 #[.pointer (some ⟨bb, 0, none⟩)] (enters_of Tryz.func139 (by kernel_rfl) rfl) (hb2.mono hbase) (Stays.below hb2) (fun U hg hU hbU => by
    refine syncDirDo_any (S := S.tick) ⟨mb, sb, cv, cvs, hU⟩ hbU hz bb (grown_keep hx2 hg (fun e => ?_))
    rw [e, hfs.blk] at hx2
    injection hx2 with hx2
    injection hx2 with _ hx2
    exact absurd hx2 (by decide)))
  have c0 : w2.cell? ⟨bb, 0, none⟩ = some (.pointer (some ⟨fb, 0, none⟩)) := cell_of_row _ _ _ _ _ _ hx2
  have c6 : w2.cell? ⟨fb, 6, none⟩ = some (.bool S.dead) := cell_of_row _ _ _ _ _ _ hfs.blk
  have hlv : ∀ x, Sf.live S.names [] x → Sf.live S.synced S.chg x := fun x hx => by
    rcases hx with ⟨s, hs⟩ | ⟨c, hc, -⟩
    · exact hok.lives hs
    · cases hc
  have HLV := Lib.hid hlv
  have hmf := run_make_func
  cases hd : S.dead
  · rw [hd] at c6
    have e3 : S.dirDo = if S.fuse = 0 then (S.kill, 13) else (S.tick.dir, 0) := by unfold Sf.St.dirDo; rw [hd]; rfl
    obtain ⟨r, hr⟩ : ∃ r, r = S.dirDo := ⟨_, rfl⟩
    rw [← hr]
    have HR := Lib.hid (hr.trans e3)
    clear h hok hd hb2 hx2 hfs e3 HL hlv hz hr
    have c7 := c6
    rw [hw2] at c7
    go_enter Tryz.func89, Tryz.ntmps89
    go_wp2_with fail
    rw [← hw2, ← hbb]
    clear hw2 hbb
    go_wp2_with fail
    clear c0 c6
    refine HSTEP.out.mono ?_; rintro e w4 hst
    have HST : Hid (e = .returned (.int .i64 r.2) ∧ Left w base fb r.1 w4) := Lib.hid (by
      rw [HR.out]
      rcases hst with ⟨h0, h1, h2, h3, h4⟩ | ⟨h0, h1, h2, h3, h4⟩
      · rw [if_pos h0]
        exact ⟨h1, h2, h3, h4⟩
      · rw [if_neg h0]
        exact ⟨h1, h2.weaken HLV.out, h3, h4⟩)
    obtain rfl := HST.out.1
    clear hst
    go_wp2_with fail
    go_ret
    exact ⟨rfl, HST.out.2⟩
  · rw [hd] at c6
    have e3 : S.dirDo = (S, 13) := by unfold Sf.St.dirDo; rw [hd]; rfl
    rw [e3]
    clear h hok hd hb2 hx2 hfs e3 hlv hz HSTEP
    have c7 := c6
    rw [hw2] at c7
    go_enter Tryz.func89, Tryz.ntmps89
    go_wp2_with fail
    rw [← hw2, ← hbb]
    clear hw2 hbb
    go_wp2_with fail
    go_ret
    exact ⟨rfl, HL.out⟩
end Go.Proofs.YtfibapfehgglhaaGreatDoor
