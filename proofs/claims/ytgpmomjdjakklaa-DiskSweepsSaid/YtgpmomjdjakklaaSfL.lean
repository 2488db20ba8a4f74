/-
  Cut, Sync.
-/
import Derived.Test.YtgpmomjdjakklaaSfK
namespace Go.Proofs.Ytgpmomjdjakklaa
open Go.RowKit
namespace Sf
/-- a change of a file: a step -/
def St.fileDo (S : St) (x : Nat) (y : File) : St × Int := if S.fuse = 0 then (S.kill, 13) else (S.tick.file x y, 0)
def St.cut (S : St) (s : ByteArray) (n : Int) : St × Int :=
  if S.dead then (S, 13) else match look S.names s with
  | none => (S, 11)
  | some x => if n < 0 ∨ ((S.F x).bytes.size : Int) < n then (S, 1) else S.fileDo x ((S.F x).change (.cut n.toNat))
def St.sync (S : St) (s : ByteArray) : St × Int :=
  if S.dead then (S, 13) else match look S.names s with
  | none => (S, 11)
  | some x => S.fileDo x (whole (S.F x).bytes)
end Sf
theorem Stepped.file {w : World} {base fb : Nat} {S : Sf.St} {x : Nat} {y : Sf.File} {e : Ending} {w' : World} (h : Stepped w base fb S (S.tick.file x y) (Sf.live S.synced S.chg) e w') : e = .returned (.int .i64 (S.fileDo x y).2) ∧ Left w base fb (S.fileDo x y).1 w' := by
  unfold Sf.St.fileDo
  rcases h with ⟨h0, h1, h2, h3, h4⟩ | ⟨h0, h1, h2, h3, h4⟩
  · rw [if_pos h0]
    exact ⟨h1, h2, h3, h4⟩
  · rw [if_neg h0]
    exact ⟨h1, h2, h3, h4⟩
/-- a step whose doing is told -/
theorem stepped_of {w w2 : World} {base fb B N : Nat} {S S2 : Sf.St} {L : Nat → Prop} {mb sb : Nat} {cv : Value} {cvs : Nat → Value} (h : FsIn w base fb S L mb sb cv cvs) (hbase : base ≤ w.heap.size) (hok : Sf.StOk B N S) (hN : N ≤ 1000000) (k : Nat) (caps : Array Value) (he : ∀ args w, (callFunc k args).run Try.prog w = .ok (.enter k args) w)
    (hw : Below base w2 w) (hst : Stays w2 w)
    (hdo : ∀ U, w.grownBy U (some fb) → FsIn U base fb S.tick L mb sb cv cvs → base ≤ U.heap.size → Calls Try.prog k caps U fun e w' => e = .returned (.tuple #[]) ∧ FsL w' base fb S2 L ∧ Below base U w' ∧ Stays U w') :
    Calls Try.prog 44 #[.pointer (some ⟨fb, 0, none⟩), .func (.func k) #[] caps] w (Stepped w2 base fb S S2 L) := by
  have hg2 : ∀ U, w.grownBy U (some fb) → Below base w U ∧ Stays w U := fun U hg => ⟨(Below.refl base w).grown hg hbase (fun r e => by cases e; exact h.lo), fs_stays h.blk hg⟩
  refine (step_any h hok hN k caps he (fun w' => FsL w' base fb S2 L ∧ Below base w w' ∧ Stays w w') (fun _ U hg hU => ?_)).mono ?_
  · obtain ⟨h1, h2⟩ := hg2 U hg
    refine (hdo U hg hU (Nat.le_trans hbase h1.size)).mono ?_
    rintro e w' ⟨he, a, b, c⟩
    exact ⟨he, a, h1.trans b, h2.trans c⟩
  · rintro e w' (⟨h0, h1, h2, hg⟩ | ⟨h0, h1, a, b, c⟩)
    · obtain ⟨h3, h4⟩ := hg2 w' hg
      exact .inl ⟨h0, h1, ⟨mb, sb, cv, cvs, h2⟩, hw.trans h3, hst.trans h4⟩
    · exact .inr ⟨h0, h1, a, hw.trans b, hst.trans c⟩
set_option maxRecDepth 100000 in
theorem cutDo_any {w : World} {base fb B N : Nat} {S : Sf.St} {L : Nat → Prop} (h : FsL w base fb S L) (hbase : base ≤ w.heap.size) {x : Nat} (hx : L x) (hf : Sf.FileOk B N (S.F x)) (hN : N ≤ 1000) (hB : B ≤ 1000000000) (n : Nat) (hn : n ≤ (S.F x).bytes.size) (xb nb : Nat)
    (hxb : w.heap[xb]? = some (.cells #[.pointer (some ⟨x, 0, none⟩)] 60 (0, 0))) (hnb : w.heap[nb]? = some (.cells #[.int .i64 (n : Int)] 3 (0, 0))) :
    Calls Try.prog 59 #[.pointer (some ⟨xb, 0, none⟩), .pointer (some ⟨nb, 0, none⟩)] w fun e w' => e = .returned (.tuple #[]) ∧ FsL w' base fb (S.file x ((S.F x).change (.cut n))) L ∧ Below base w w' ∧ Stays w w' := by
  have HC := Lib.hid (change_any h hbase hx hf hN hB (.cut n) hn)
  have c0 : w.cell? ⟨xb, 0, none⟩ = some (.pointer (some ⟨x, 0, none⟩)) := cell_of_row _ _ _ _ _ _ hxb
  have c1 : w.cell? ⟨nb, 0, none⟩ = some (.int .i64 (n : Int)) := cell_of_row _ _ _ _ _ _ hnb
  clear h hxb hnb hf
  go_enter Try.func59, Try.ntmps59
  go_wp2_with fail
  refine HC.out.mono ?_; rintro e w2 ⟨rfl, hr⟩
  have HR := Lib.hid hr
  clear hr
  go_wp2_with fail
  go_end0
  exact ⟨rfl, HR.out⟩
set_option maxRecDepth 100000 in
set_option maxHeartbeats 2000000 in
theorem Cut_any {w : World} {base fb B N : Nat} {S : Sf.St} (h : FsAt w base fb S) (hbase : base ≤ w.heap.size) (hok : Sf.StOk B N S) (hN : N ≤ 999) (hB : B ≤ 1000000000) (s : ByteArray) (hs : s.size ≤ maxLen) (n : Int) :
    Calls Try.prog 49 #[.pointer (some ⟨fb, 0, none⟩), .string s, .int .i64 n] w fun e w' => e = .returned (.int .i64 (S.cut s n).2) ∧ Left w base fb (S.cut s n).1 w' := by
  obtain ⟨w1, hw1⟩ : ∃ w1, w1 = w.alloc (.cells #[.int .i64 n] 3) := ⟨_, rfl⟩
  obtain ⟨nb, hnb⟩ : ∃ nb, nb = w.heap.size := ⟨_, rfl⟩
  have hb1 : Below w.heap.size w w1 := by rw [hw1]; exact (Below.refl _ _).alloc (Nat.le_refl _) _
  have hc1 : w1.heap[nb]? = some (.cells #[.int .i64 n] 3 (0, 0)) := by rw [hw1, hnb]; exact heap_alloc_new w _
  have hz1 : w1.heap.size = nb + 1 := by rw [hw1, hnb]; simp
  have HZ1 := Lib.hid hz1
  have HFI := Lib.hid (find_any (h.far hb1) hok.nice s hs)
  have HL : Hid (∀ v : Value, Left w base fb S (w1.alloc (.cells #[v] 60))) := Lib.hid (fun v => by
    have hb2 := below_step hb1 ((Below.refl w1.heap.size w1).alloc (Nat.le_refl _) (.cells #[v] 60))
    exact ⟨h.far hb2, hb2.mono hbase, Stays.below hb2⟩)
  rcases Sf.find_cases S s with ⟨x, e, hd, hl⟩ | ⟨e, hd, hl⟩ | ⟨e, hd⟩
  · simp only [e, ptrV, Option.map_some] at HFI
    obtain ⟨w2, hw2⟩ : ∃ w2, w2 = w1.alloc (.cells #[.pointer (some ⟨x, 0, none⟩)] 60) := ⟨_, rfl⟩
    have hb2 : Below w1.heap.size w1 w2 := by rw [hw2]; exact (Below.refl _ _).alloc (Nat.le_refl _) _
    have hx2 : w2.heap[nb + 1]? = some (.cells #[.pointer (some ⟨x, 0, none⟩)] 60 (0, 0)) := by rw [hw2, ← hz1]; exact heap_alloc_new w1 _
    have hn2 := heap_keep hc1 hb2
    have hB2 := below_step hb1 hb2
    obtain ⟨mb, sb, cv, cvs, hfs⟩ := FsL.far h hB2
    have hlive := hok.lives hl
    have hfo := hok.file x hlive
    have HX2 := Lib.hid hx2; have HN2 := Lib.hid hn2
    have HFB := Lib.hid (hfs.fil x hlive).blk
    have HLL := Lib.hid (HL.out (.pointer (some ⟨x, 0, none⟩)))
    rw [← hw2] at HLL
    have HSTEP : Hid (0 ≤ n → n ≤ ((S.F x).bytes.size : Int) → ∀ V, Below w2.heap.size w2 V → Calls Try.prog 44 #[.pointer (some ⟨fb, 0, none⟩), .func (.func 59) #[] #[.pointer (some ⟨nb + 1, 0, none⟩), .pointer (some ⟨nb, 0, none⟩)]] V (Stepped w base fb S (S.tick.file x ((S.F x).change (.cut n.toNat))) (Sf.live S.synced S.chg))) := Lib.hid (fun hn0 hn1 V hV => by
      have hfV := hfs.far hV
      have hBV := below_step hB2 hV
      have hxV := heap_keep hx2 hV
      have hnV := heap_keep hn2 hV
      refine stepped_of hfV (Nat.le_trans hbase hBV.size) hok (by omega) _ _ (enters_of Try.func59 (by kernel_rfl) rfl) (hBV.mono hbase) (Stays.below hBV) (fun U hg hU hbU => ?_)
      have hne : ∀ {g : Nat} {cs : Array Value} {T : TypeId}, V.heap[g]? = some (.cells cs T (0, 0)) → T ≠ 50 → g ≠ fb := fun hgc hT e => by
        rw [e, hfV.blk] at hgc
        injection hgc with hgc
        injection hgc with _ hgc
        exact hT hgc.symm
      have e1 : (n.toNat : Int) = n := Int.toNat_of_nonneg hn0
      refine cutDo_any (S := S.tick) (B := B) (N := N + 1) ⟨mb, sb, cv, cvs, hU⟩ hbU hlive (hfo.mono (Nat.le_refl _) (Nat.le_succ _)) (by omega) hB n.toNat (show n.toNat ≤ (S.F x).bytes.size by omega) (nb + 1) nb (grown_keep hxV hg (hne hxV (by decide))) ?_
      rw [e1]
      exact grown_keep hnV hg (hne hnV (by decide)))
    have e3 : S.cut s n = if n < 0 ∨ ((S.F x).bytes.size : Int) < n then (S, 1) else S.fileDo x ((S.F x).change (.cut n.toNat)) := by unfold Sf.St.cut; rw [hd, hl]; rfl
    obtain ⟨r, hr⟩ : ∃ r, r = S.cut s n := ⟨_, rfl⟩
    rw [← hr]
    rw [e3] at hr
    have HR := Lib.hid hr
    clear h hok e hd hl hb1 hc1 hz1 hb2 hx2 hn2 hB2 hfs hlive hfo e3 hr
    have hmf := run_make_func
    generalize hsz : (S.F x).bytes.size = sz at *
    go_enter Try.func49, Try.ntmps49
    go_wp2_with fail
    rw [← hw1, ← hnb]
    clear hw1 hnb
    refine HFI.out.mono ?_; rintro e w9 ⟨rfl, rfl⟩
    go_wp2_with fail
    rw [← hw2, HZ1.out]
    clear hw2
    refine plain_T (fun U => Below w2.heap.size w2 U) [] (by kernel_rfl) ?_
    have HD : Hid (Below w2.heap.size w2 w2.drew) := Lib.hid (Below.refl _ _).drew
    generalize w2.drew = wd at HD ⊢
    have HCELL : Hid (∀ U, Below w2.heap.size w2 U → U.cell? ⟨nb, 0, none⟩ = some (.int .i64 n) ∧ U.cell? ⟨nb + 1, 0, none⟩ = some (.pointer (some ⟨x, 0, none⟩)) ∧ U.cell? ⟨x, 0, none⟩ = some (.string (S.F x).bytes)) := Lib.hid (fun U hU => ⟨cell_of_row _ _ _ _ _ _ (heap_keep HN2.out hU), cell_of_row _ _ _ _ _ _ (heap_keep HX2.out hU), cell_of_row _ _ _ _ _ _ (heap_keep HFB.out hU)⟩)
    by_cases hneg : n < 0
    · have d0 : decide (n < 0) = true := decide_eq_true hneg
      refine wpAnyT_pick (S := (fun U => Below w2.heap.size w2 U)) (by kernel_rfl) Only.panic Only.keepsIn (w := wd) HD.out [0, 1, 2, 3, 4, 5, 6, 7, 8, 9, 10] 0 _ _ (by kernel_rfl) ?_
      refine PickT.value (d := some 18) (.int .i64 n) rfl rfl (by kernel_rfl) (fun U hU => (by obtain ⟨h0, h1, h2⟩ := HCELL.out U hU; go_simp)) ?_
      refine PickT.value (d := some 19) (.bool true) rfl rfl (by kernel_rfl) (fun U hU => (by go_simp)) ?_
      refine PickT.value (d := some 20) (.bool true) rfl rfl (by kernel_rfl) (fun U hU => (by go_simp)) ?_
      refine PickT.skip (d := some 21) rfl rfl (by kernel_rfl) ?_
      refine PickT.skip (d := some 22) rfl rfl (by kernel_rfl) ?_
      refine PickT.skip (d := some 23) rfl rfl (by kernel_rfl) ?_
      refine PickT.skip (d := some 24) rfl rfl (by kernel_rfl) ?_
      refine PickT.skip (d := some 25) rfl rfl (by kernel_rfl) ?_
      refine PickT.skip (d := some 26) rfl rfl (by kernel_rfl) ?_
      refine PickT.skip (d := some 27) rfl rfl (by kernel_rfl) ?_
      refine PickT.value (d := some 28) (.bool true) rfl rfl (by kernel_rfl) (fun U hU => (by go_simp)) ?_
      simp only [PickT, Act.put, List.setIfInBounds_toArray, List.set_cons_zero, List.set_cons_succ]
      refine wpAnyT_done (by kernel_rfl) ?_ _
      refine only_mk ?_
      have HFIN : Hid (Left w base fb S wd) := Lib.hid ⟨HLL.out.fs.far HD.out, HLL.out.bel.trans (HD.out.mono (HLL.out.bel.size |> Nat.le_trans hbase)), HLL.out.st.trans (Stays.below HD.out)⟩
      have hr := HR.out.trans (if_pos (.inl hneg))
      go_wp2_with fail
      go_ret
      first | exact ⟨rfl, HFIN.out⟩ | (rw [hr]; exact ⟨rfl, HFIN.out⟩)
    · have d0 : decide (n < 0) = false := decide_eq_false hneg
      by_cases hbig : (sz : Int) < n
      · have d1 : decide ((sz : Int) < n) = true := decide_eq_true hbig
        refine wpAnyT_pick (S := (fun U => Below w2.heap.size w2 U)) (by kernel_rfl) Only.panic Only.keepsIn (w := wd) HD.out [0, 1, 2, 3, 4, 5, 6, 7, 8, 9, 10] 0 _ _ (by kernel_rfl) ?_
        refine PickT.value (d := some 18) (.int .i64 n) rfl rfl (by kernel_rfl) (fun U hU => (by obtain ⟨h0, h1, h2⟩ := HCELL.out U hU; go_simp)) ?_
        refine PickT.value (d := some 19) (.bool false) rfl rfl (by kernel_rfl) (fun U hU => (by go_simp)) ?_
        refine PickT.value (d := some 20) (.bool false) rfl rfl (by kernel_rfl) (fun U hU => (by go_simp)) ?_
        refine PickT.value (d := some 21) (.int .i64 n) rfl rfl (by kernel_rfl) (fun U hU => (by obtain ⟨h0, h1, h2⟩ := HCELL.out U hU; go_simp)) ?_
        refine PickT.value (d := some 22) (.pointer (some ⟨x, 0, none⟩)) rfl rfl (by kernel_rfl) (fun U hU => (by obtain ⟨h0, h1, h2⟩ := HCELL.out U hU; go_simp)) ?_
        refine PickT.value (d := some 23) (.pointer (some ⟨x, 0, none⟩)) rfl rfl (by kernel_rfl) (fun U hU => (by go_simp)) ?_
        refine PickT.value (d := some 24) (.pointer (some ⟨x, 0, none⟩)) rfl rfl (by kernel_rfl) (fun U hU => (by go_simp)) ?_
        refine PickT.value (d := some 25) (.string (S.F x).bytes) rfl rfl (by kernel_rfl) (fun U hU => (by obtain ⟨h0, h1, h2⟩ := HCELL.out U hU; go_simp)) ?_
        refine PickT.value (d := some 26) (.int .i64 (sz : Int)) rfl rfl (by kernel_rfl) (fun U hU => (by go_simp)) ?_
        refine PickT.value (d := some 27) (.bool true) rfl rfl (by kernel_rfl) (fun U hU => (by go_simp)) ?_
        refine PickT.value (d := some 28) (.bool true) rfl rfl (by kernel_rfl) (fun U hU => (by go_simp)) ?_
        simp only [PickT, Act.put, List.setIfInBounds_toArray, List.set_cons_zero, List.set_cons_succ]
        refine wpAnyT_done (by kernel_rfl) ?_ _
        refine only_mk ?_
        have HFIN : Hid (Left w base fb S wd) := Lib.hid ⟨HLL.out.fs.far HD.out, HLL.out.bel.trans (HD.out.mono (HLL.out.bel.size |> Nat.le_trans hbase)), HLL.out.st.trans (Stays.below HD.out)⟩
        have hr := HR.out.trans (if_pos (.inr hbig))
        go_wp2_with fail
        go_ret
        first | exact ⟨rfl, HFIN.out⟩ | (rw [hr]; exact ⟨rfl, HFIN.out⟩)
      · have d1 : decide ((sz : Int) < n) = false := decide_eq_false hbig
        refine wpAnyT_pick (S := (fun U => Below w2.heap.size w2 U)) (by kernel_rfl) Only.panic Only.keepsIn (w := wd) HD.out [0, 1, 2, 3, 4, 5, 6, 7, 8, 9, 10] 0 _ _ (by kernel_rfl) ?_
        refine PickT.value (d := some 18) (.int .i64 n) rfl rfl (by kernel_rfl) (fun U hU => (by obtain ⟨h0, h1, h2⟩ := HCELL.out U hU; go_simp)) ?_
        refine PickT.value (d := some 19) (.bool false) rfl rfl (by kernel_rfl) (fun U hU => (by go_simp)) ?_
        refine PickT.value (d := some 20) (.bool false) rfl rfl (by kernel_rfl) (fun U hU => (by go_simp)) ?_
        refine PickT.value (d := some 21) (.int .i64 n) rfl rfl (by kernel_rfl) (fun U hU => (by obtain ⟨h0, h1, h2⟩ := HCELL.out U hU; go_simp)) ?_
        refine PickT.value (d := some 22) (.pointer (some ⟨x, 0, none⟩)) rfl rfl (by kernel_rfl) (fun U hU => (by obtain ⟨h0, h1, h2⟩ := HCELL.out U hU; go_simp)) ?_
        refine PickT.value (d := some 23) (.pointer (some ⟨x, 0, none⟩)) rfl rfl (by kernel_rfl) (fun U hU => (by go_simp)) ?_
        refine PickT.value (d := some 24) (.pointer (some ⟨x, 0, none⟩)) rfl rfl (by kernel_rfl) (fun U hU => (by go_simp)) ?_
        refine PickT.value (d := some 25) (.string (S.F x).bytes) rfl rfl (by kernel_rfl) (fun U hU => (by obtain ⟨h0, h1, h2⟩ := HCELL.out U hU; go_simp)) ?_
        refine PickT.value (d := some 26) (.int .i64 (sz : Int)) rfl rfl (by kernel_rfl) (fun U hU => (by go_simp)) ?_
        refine PickT.value (d := some 27) (.bool false) rfl rfl (by kernel_rfl) (fun U hU => (by go_simp)) ?_
        refine PickT.value (d := some 28) (.bool false) rfl rfl (by kernel_rfl) (fun U hU => (by go_simp)) ?_
        simp only [PickT, Act.put, List.setIfInBounds_toArray, List.set_cons_zero, List.set_cons_succ]
        refine wpAnyT_done (by kernel_rfl) ?_ _
        refine only_mk ?_
        have HST := Lib.hid (HSTEP.out (by omega) (by omega) wd HD.out)
        clear HSTEP HCELL HN2 HX2 HFB
        go_wp2_with fail
        refine HST.out.mono ?_; rintro e w4 hst
        obtain ⟨he, hleft⟩ := hst.file
        rw [← HR.out.trans (if_neg (fun h => by rcases h with h | h <;> omega))] at he hleft
        subst he
        have HLE := Lib.hid hleft
        clear hst hleft
        go_wp2_with fail
        go_ret
        exact ⟨rfl, HLE.out⟩
  all_goals
    simp only [e, ptrV, Option.map_none] at HFI
    have HLN := Lib.hid (HL.out (.pointer none))
    have er : S.cut s n = (S, (S.find s).2) := by
      rw [e]
      unfold Sf.St.cut
      first
        | (rw [hd, hl]; rfl)
        | (rw [hd]; rfl)
    rw [er, e]
    clear h hok e er hb1 hc1 hz1 HL
    go_enter Try.func49, Try.ntmps49
    go_wp2_with fail
    rw [← hw1, ← hnb]
    clear hw1 hnb
    refine HFI.out.mono ?_; rintro e w9 ⟨rfl, rfl⟩
    go_wp2_with fail
    go_ret
    exact ⟨rfl, HLN.out⟩
end Go.Proofs.Ytgpmomjdjakklaa
