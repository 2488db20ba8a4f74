/-
  Append.
-/
import Derived.Test.YtgpmomjdjakklaaSfS
namespace Go.Proofs.Ytgpmomjdjakklaa
open Go.RowKit
namespace Sf
def St.append (S : St) (s b : ByteArray) : St × Int :=
  if S.dead then (S, 13) else match look S.names s with
  | none => (S, 11)
  | some x => if S.room < (S.total : Int) + (b.size : Int) then (S, 8) else S.fileDo x ((S.F x).change (.app b))
end Sf
set_option maxRecDepth 100000 in
theorem appendDo_any {w : World} {base fb B N : Nat} {S : Sf.St} {L : Nat → Prop} (h : FsL w base fb S L) (hbase : base ≤ w.heap.size) {x : Nat} (hx : L x) (hf : Sf.FileOk B N (S.F x)) (hN : N ≤ 1000) (hB : B ≤ 1000000000) (b : ByteArray) (hn : (S.F x).bytes.size + b.size ≤ B) (xb nb : Nat)
    (hxb : w.heap[xb]? = some (.cells #[.pointer (some ⟨x, 0, none⟩)] 60 (0, 0))) (hnb : w.heap[nb]? = some (.cells #[.string b] 9 (0, 0))) :
    Calls Try.prog 45 #[.pointer (some ⟨xb, 0, none⟩), .pointer (some ⟨nb, 0, none⟩)] w fun e w' => e = .returned (.tuple #[]) ∧ FsL w' base fb (S.file x ((S.F x).change (.app b))) L ∧ Below base w w' ∧ Stays w w' := by
  have HC := Lib.hid (change_any h hbase hx hf hN hB (.app b) hn)
  have c0 : w.cell? ⟨xb, 0, none⟩ = some (.pointer (some ⟨x, 0, none⟩)) := cell_of_row _ _ _ _ _ _ hxb
  have c1 : w.cell? ⟨nb, 0, none⟩ = some (.string b) := cell_of_row _ _ _ _ _ _ hnb
  clear h hxb hnb hf
  go_enter Try.func45, Try.ntmps45
  go_wp2_with fail
  refine HC.out.mono ?_; rintro e w2 ⟨rfl, hr⟩
  have HR := Lib.hid hr
  clear hr
  go_wp2_with fail
  go_end0
  exact ⟨rfl, HR.out⟩
set_option maxRecDepth 100000 in
set_option maxHeartbeats 2000000 in
theorem Append_any {w : World} {base fb B N : Nat} {S : Sf.St} (h : FsAt w base fb S) (hbase : base ≤ w.heap.size) (hok : Sf.StOk B N S) (hN : N ≤ 999) (hB : B ≤ 100000000) (s : ByteArray) (hs : s.size ≤ maxLen) (b : ByteArray) (hbz : b.size ≤ 300) :
    Calls Try.prog 20 #[.pointer (some ⟨fb, 0, none⟩), .string s, .string b] w fun e w' => e = .returned (.int .i64 (S.append s b).2) ∧ Left w base fb (S.append s b).1 w' := by
  obtain ⟨w1, hw1⟩ : ∃ w1, w1 = w.alloc (.cells #[.string b] 9) := ⟨_, rfl⟩
  obtain ⟨nb, hnb⟩ : ∃ nb, nb = w.heap.size := ⟨_, rfl⟩
  have hb1 : Below w.heap.size w w1 := by rw [hw1]; exact (Below.refl _ _).alloc (Nat.le_refl _) _
  have hc1 : w1.heap[nb]? = some (.cells #[.string b] 9 (0, 0)) := by rw [hw1, hnb]; exact heap_alloc_new w _
  have hz1 : w1.heap.size = nb + 1 := by rw [hw1, hnb]; simp
  have HZ1 := Lib.hid hz1
  have HFI := Lib.hid (find_any (h.far hb1) hok.nice s hs)
  have HL : Hid (∀ v : Value, Left w base fb S (w1.alloc (.cells #[v] 60))) := Lib.hid (fun v => by
    have hb2 := below_step hb1 ((Below.refl w1.heap.size w1).alloc (Nat.le_refl _) (.cells #[v] 60))
    exact ⟨h.far hb2, hb2.mono hbase, Stays.below hb2⟩)
  rcases Sf.find_cases S s with ⟨x, e, hd, hl⟩ | ⟨e, hd, hl⟩ | ⟨e, hd⟩
  · simp only [e, ptrV, Option.map_some] at HFI
    obtain ⟨w2, hw2⟩ : ∃ w2, w2 = w1.alloc (.cells #[.pointer (some ⟨x, 0, none⟩)] 60) := ⟨_, rfl⟩
    have hb2 : Below w1.heap.size w1 w2 := by rw [hw2]; exact (Below.refl _ _).alloc (Nat.le_refl _) _
    have hx2 : w2.heap[nb + 1]? = some (.cells #[.pointer (some ⟨x, 0, none⟩)] 60 (0, 0)) := by rw [hw2, ← hz1]; exact heap_alloc_new w1 _
    have hn2 := heap_keep hc1 hb2
    have hB2 := below_step hb1 hb2
    obtain ⟨mb, sb, cv, cvs, hfs⟩ := FsL.far h hB2
    have hlive := hok.lives hl
    have hfo := hok.file x hlive
    have hmx := Sf.FileOk.size hfo
    have HX2 := Lib.hid hx2; have HN2 := Lib.hid hn2
    have HFB := Lib.hid hfs.blk
    have HLL := Lib.hid (HL.out (.pointer (some ⟨x, 0, none⟩)))
    rw [← hw2] at HLL
    have HSTEP : Hid (∀ V, Below w2.heap.size w2 V → Calls Try.prog 44 #[.pointer (some ⟨fb, 0, none⟩), .func (.func 45) #[] #[.pointer (some ⟨nb + 1, 0, none⟩), .pointer (some ⟨nb, 0, none⟩)]] V (Stepped w base fb S (S.tick.file x ((S.F x).change (.app b))) (Sf.live S.synced S.chg))) := Lib.hid (fun V hV => by
      have hfV := hfs.far hV
      have hBV := below_step hB2 hV
      have hxV := heap_keep hx2 hV
      have hnV := heap_keep hn2 hV
      refine stepped_of hfV (Nat.le_trans hbase hBV.size) hok (by omega) _ _ (enters_of Try.func45 (by kernel_rfl) rfl) (hBV.mono hbase) (Stays.below hBV) (fun U hg hU hbU => ?_)
      have hne : ∀ {g : Nat} {cs : Array Value} {T : TypeId}, V.heap[g]? = some (.cells cs T (0, 0)) → T ≠ 50 → g ≠ fb := fun hgc hT e => by
        rw [e, hfV.blk] at hgc
        injection hgc with hgc
        injection hgc with _ hgc
        exact hT hgc.symm
      exact appendDo_any (S := S.tick) (B := B + 300) (N := N + 1) ⟨mb, sb, cv, cvs, hU⟩ hbU hlive (hfo.mono (Nat.le_add_right _ _) (Nat.le_succ _)) (by omega) (by omega) b (show (S.F x).bytes.size + b.size ≤ B + 300 by omega) (nb + 1) nb (grown_keep hxV hg (hne hxV (by decide))) (grown_keep hnV hg (hne hnV (by decide))))
    have e3 : S.append s b = if S.room < (S.total : Int) + (b.size : Int) then (S, 8) else S.fileDo x ((S.F x).change (.app b)) := by unfold Sf.St.append; rw [hd, hl]; rfl
    have HSZ : Hid (∀ V, Below w2.heap.size w2 V → Calls Try.prog 43 #[.pointer (some ⟨fb, 0, none⟩)] V fun e w' => e = .returned (.int .i64 ((S.total : Nat) : Int)) ∧ Below V.heap.size V w') := Lib.hid (fun V hV => Size_any (show FsAt V base fb S from ⟨mb, sb, cv, cvs, hfs.far hV⟩) hok (by omega))
    have htot := hok.total
    have hwr : IntKind.i64.wrap ((S.total : Int) + (b.size : Int)) = (S.total : Int) + (b.size : Int) := IntWalk.i64_in _ (by omega)
    have HWR := Lib.hid hwr
    obtain ⟨r, hr⟩ : ∃ r, r = S.append s b := ⟨_, rfl⟩
    rw [← hr]
    rw [e3] at hr
    have HR := Lib.hid hr
    clear h hok e hd hl hb1 hc1 hz1 hb2 hx2 hn2 hB2 hfs hlive hfo e3 hr hmx htot hwr
    have hmf := run_make_func
    go_enter Try.func20, Try.ntmps20
    go_wp2_with fail
    rw [← hw1, ← hnb]
    clear hw1 hnb
    refine HFI.out.mono ?_; rintro e w9 ⟨rfl, rfl⟩
    go_wp2_with fail
    rw [← hw2, HZ1.out]
    clear hw2
    refine plain_T (fun U => Below w2.heap.size w2 U) [] (by kernel_rfl) ?_
    have HD : Hid (Below w2.heap.size w2 w2.drew) := Lib.hid (Below.refl _ _).drew
    generalize w2.drew = wd at HD ⊢
    have HCELL : Hid (∀ U, Below w2.heap.size w2 U → U.cell? ⟨nb, 0, none⟩ = some (.string b) ∧ U.cell? ⟨fb, 3, none⟩ = some (.int .i64 S.room)) := Lib.hid (fun U hU => ⟨cell_of_row _ _ _ _ _ _ (heap_keep HN2.out hU), cell_of_row _ _ _ _ _ _ (heap_keep HFB.out hU)⟩)
    generalize hsz : S.total = tt at *
    generalize hbz2 : b.size = bz at *
    refine wpAnyT_pick (S := (fun U => Below w2.heap.size w2 U)) (by kernel_rfl) Only.panic Only.keepsIn (w := wd) HD.out [0, 2, 3, 5, 6, 7, 8] 3 _ _ (by kernel_rfl) ?_
    refine PickT.value (d := some 18) (.pointer (some ⟨fb, 0, none⟩)) rfl rfl (by kernel_rfl) (fun U hU => (by go_simp)) ?_
    refine PickT.value (d := some 20) (.string b) rfl rfl (by kernel_rfl) (fun U hU => (by obtain ⟨h0, h1⟩ := HCELL.out U hU; go_simp)) ?_
    refine PickT.value (d := some 21) (.int .i64 (bz : Int)) rfl rfl (by kernel_rfl) (fun U hU => (by go_simp)) ?_
    refine PickT.value (d := some 23) (.pointer (some ⟨fb, 0, none⟩)) rfl rfl (by kernel_rfl) (fun U hU => (by go_simp)) ?_
    refine PickT.value (d := some 24) (.pointer (some ⟨fb, 0, none⟩)) rfl rfl (by kernel_rfl) (fun U hU => (by go_simp)) ?_
    refine PickT.value (d := some 25) (.pointer (some ⟨fb, 3, none⟩)) rfl rfl (by kernel_rfl) (fun U hU => (by go_simp)) ?_
    refine PickT.value (d := some 26) (.int .i64 S.room) rfl rfl (by kernel_rfl) (fun U hU => (by obtain ⟨h0, h1⟩ := HCELL.out U hU; go_simp)) ?_
    simp only [PickT, Act.put, List.setIfInBounds_toArray, List.set_cons_zero, List.set_cons_succ]
    refine wpAnyT_one (i := 1) (by kernel_rfl) rfl (by kernel_rfl) ?_
    intro K hK
    unfold Oper.wp
    go_simp
    refine (HSZ.out wd HD.out).mono ?_; rintro e w3 ⟨rfl, hb3⟩
    have HD3 := Lib.hid (below_step HD.out hb3)
    clear hb3
    refine hK _ _ (fun _ => HD3.out) ?_
    clear hK K
    have hwr := HWR.out
    by_cases hfull : S.room < (tt : Int) + (bz : Int)
    · have d0 : decide (S.room < (tt : Int) + (bz : Int)) = true := decide_eq_true hfull
      refine wpAnyT_pick (S := (fun U => Below w2.heap.size w2 U)) (by kernel_rfl) Only.panic Only.keepsIn (w := w3) HD3.out [4, 9] 0 _ _ (by kernel_rfl) ?_
      refine PickT.value (d := some 22) (.int .i64 ((tt : Int) + (bz : Int))) rfl rfl (by kernel_rfl) (fun U hU => (by go_simp)) ?_
      refine PickT.value (d := some 27) (.bool true) rfl rfl (by kernel_rfl) (fun U hU => (by go_simp)) ?_
      simp only [PickT, Act.put, List.setIfInBounds_toArray, List.set_cons_zero, List.set_cons_succ]
      refine wpAnyT_done (by kernel_rfl) ?_ _
      refine only_mk ?_
      have HFIN : Hid (Left w base fb S w3) := Lib.hid ⟨HLL.out.fs.far HD3.out, HLL.out.bel.trans (HD3.out.mono (HLL.out.bel.size |> Nat.le_trans hbase)), HLL.out.st.trans (Stays.below HD3.out)⟩
      have hr := HR.out.trans (if_pos hfull)
      go_wp2_with fail
      go_ret
      first | exact ⟨rfl, HFIN.out⟩ | (rw [hr]; exact ⟨rfl, HFIN.out⟩)
    · have d0 : decide (S.room < (tt : Int) + (bz : Int)) = false := decide_eq_false hfull
      refine wpAnyT_pick (S := (fun U => Below w2.heap.size w2 U)) (by kernel_rfl) Only.panic Only.keepsIn (w := w3) HD3.out [4, 9] 0 _ _ (by kernel_rfl) ?_
      refine PickT.value (d := some 22) (.int .i64 ((tt : Int) + (bz : Int))) rfl rfl (by kernel_rfl) (fun U hU => (by go_simp)) ?_
      refine PickT.value (d := some 27) (.bool false) rfl rfl (by kernel_rfl) (fun U hU => (by go_simp)) ?_
      simp only [PickT, Act.put, List.setIfInBounds_toArray, List.set_cons_zero, List.set_cons_succ]
      refine wpAnyT_done (by kernel_rfl) ?_ _
      refine only_mk ?_
      have HST := Lib.hid (HSTEP.out w3 HD3.out)
      clear HSTEP HCELL HN2 HX2 HFB HSZ hwr HWR
      go_wp2_with fail
      refine HST.out.mono ?_; rintro e w4 hst
      obtain ⟨he, hleft⟩ := hst.file
      rw [← HR.out.trans (if_neg (by omega))] at he hleft
      subst he
      have HLE := Lib.hid hleft
      clear hst hleft
      go_wp2_with fail
      go_ret
      exact ⟨rfl, HLE.out⟩
  all_goals
    simp only [e, ptrV, Option.map_none] at HFI
    have HLN := Lib.hid (HL.out (.pointer none))
    have er : S.append s b = (S, (S.find s).2) := by
      rw [e]
      unfold Sf.St.append
      first
        | (rw [hd, hl]; rfl)
        | (rw [hd]; rfl)
    rw [er, e]
    clear h hok e er hb1 hc1 hz1 HL
    go_enter Try.func20, Try.ntmps20
    go_wp2_with fail
    rw [← hw1, ← hnb]
    clear hw1 hnb
    refine HFI.out.mono ?_; rintro e w9 ⟨rfl, rfl⟩
    go_wp2_with fail
    go_ret
    exact ⟨rfl, HLN.out⟩
end Go.Proofs.Ytgpmomjdjakklaa
