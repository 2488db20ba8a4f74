import Derived.Test.YtfibapfehgglhaaGreatDoorSfJ
/-
  A change of a file.
-/
namespace Go.Proofs.YtfibapfehgglhaaGreatDoor
open Go.RowKit
theorem nil_write (T : TypeId) (f : Nat) (v : Value) (h : (T = 237 ∧ f = 427) ∨ (T = 170 ∧ f = 405)) (w : World) :
    (nilAhead 616 T v "alluvium/simfs.write").run Tryz.prog w = .ok (some false) w ∧ (method 616 T v "alluvium/simfs.write").run Tryz.prog w = .ok (f, v) w := by
  rcases h with ⟨rfl, rfl⟩ | ⟨rfl, rfl⟩
  · exact ⟨by kernel_rfl, by kernel_rfl⟩
  · exact ⟨by kernel_rfl, by kernel_rfl⟩
theorem wr_iface (c : Sf.Wr) : ∃ T v f, c.val = .iface T v ∧ (∀ U, (nilAhead 616 T v "alluvium/simfs.write").run Tryz.prog U = .ok (some false) U) ∧ (∀ U, (method 616 T v "alluvium/simfs.write").run Tryz.prog U = .ok (f, v) U) ∧ (∀ args w, (callFunc f args).run Tryz.prog w = .ok (.enter f args) w) ∧
    ∀ (B : Nat) (b : ByteArray) (w : World), B ≤ 1000000000 → c.ok B b → Calls Tryz.prog f #[v, .string b] w fun e w' => e = .returned (.string (c.write b)) ∧ Below w.heap.size w w' := by
  cases c with
  | app x =>
    refine ⟨_, _, _, rfl, fun U => (nil_write _ _ _ (.inl ⟨rfl, rfl⟩) U).1, fun U => (nil_write _ _ _ (.inl ⟨rfl, rfl⟩) U).2, enters_of Tryz.func427 (by kernel_rfl) rfl, ?_⟩
    intro B b w hB hc
    exact writeA_any x b (Nat.le_trans hc hB) w
  | cut n =>
    refine ⟨_, _, _, rfl, fun U => (nil_write _ _ _ (.inr ⟨rfl, rfl⟩) U).1, fun U => (nil_write _ _ _ (.inr ⟨rfl, rfl⟩) U).2, enters_of Tryz.func405 (by kernel_rfl) rfl, ?_⟩
    intro B b w _ hc
    exact writeC_any n b hc w
set_option maxRecDepth 100000 in
set_option maxHeartbeats 2000000 in
theorem change_any {w : World} {base fb B N : Nat} {S : Sf.St} {L : Nat → Prop} (h : FsL w base fb S L) (hbase : base ≤ w.heap.size) {x : Nat} (hx : L x) (hf : Sf.FileOk B N (S.F x)) (hN : N ≤ 1000) (hB : B ≤ 1000000000) (c : Sf.Wr) (hc : c.ok B (S.F x).bytes) :
    Calls Tryz.prog 92 #[.pointer (some ⟨x, 0, none⟩), c.val] w fun e w' => e = .returned (.tuple #[]) ∧ FsL w' base fb (S.file x ((S.F x).change c)) L ∧ Below base w w' ∧ Stays w w' := by
  obtain ⟨mb, sb, cv, cvs, h⟩ := h
  obtain ⟨T, v, f, hv, hna, hme, hfn, hcall⟩ := wr_iface c
  have HI := Lib.hid h
  have HBK := Lib.hid (h.fil x hx).blk
  have HC := Lib.hid (fun U => hcall B (S.F x).bytes U hB hc)
  have hlen := hf.few
  obtain ⟨A, kc, hcv, -⟩ := own_row (h.fil x hx).row
  clear h hcall hf hc
  rw [hv]
  go_enter Tryz.func92, Tryz.ntmps92
  go_wp2_with fail
  refine plain_T (fun U => Below w.heap.size w U) [12] (by kernel_rfl) ?_
  have HD : Hid (Below w.heap.size w w.drew) := Lib.hid (Below.refl _ _).drew
  generalize w.drew = wd at HD ⊢
  refine zq (S := (fun U => Below w.heap.size w U)) (w := wd) HD.out [0, 1, 2, 3, 4, 5, 6, 7, 8] 4 ?_
  refine zp 4 (.pointer (some ⟨x, 0, none⟩)) ?_
  refine zp 5 (.iface T v) ?_
  refine zp 6 (.pointer (some ⟨x, 0, none⟩)) ?_
  refine zp 7 (.pointer (some ⟨x, 0, none⟩)) ?_
  refine zp 8 (.pointer (some ⟨x, 0, none⟩)) ?_
  refine zp 9 (.string (S.F x).bytes) ?_ (hy := fun U hU => (by have h0 : U.cell? ⟨x, 0, none⟩ = some (.string (S.F x).bytes) := cell_of_row _ _ _ _ _ _ (heap_keep HBK.out hU); go_simp))
  refine zp 10 (.func (.method "alluvium/simfs.write") #[.iface T v] #[]) ?_
  refine zp 11 (.func (.method "alluvium/simfs.write") #[.iface T v] #[]) ?_
  refine zp 12 (.iface T v) ?_
  simp only [zx]
  refine zo 9 ?_
  intro K hK
  unfold Oper.wp
  go_simp
  refine (HC.out _).mono ?_; rintro e w2 ⟨rfl, hb2⟩
  have HB2 := Lib.hid (below_step HD.out hb2)
  have HBK2 := Lib.hid (heap_keep HBK.out HB2.out)
  clear hb2
  refine hK _ _ (fun _ => HB2.out) ?_
  clear hK K
  refine zq (S := (fun U => Below w.heap.size w U)) (w := w2) HB2.out [10, 11] 1 ?_
  refine zp 14 (.pointer (some ⟨x, 0, none⟩)) ?_
  refine zp 15 (.pointer (some ⟨x, 0, none⟩)) ?_
  simp only [zx]
  have z0 : w2.cell? ⟨x, 0, none⟩ = some (.string (S.F x).bytes) := cell_of_row _ _ _ _ _ _ HBK2.out
  have f0 : w2.frozen? ⟨x, 0, none⟩ = false := frozen_of_row _ _ _ _ _ HBK2.out
  refine zo 12 ?_
  intro K hK
  unfold Oper.wp
  go_simp
  clear z0 f0
  refine hK _ _ (fun h => absurd h (by decide)) ?_
  clear hK K
  have hI2 := HI.out.far HB2.out
  have hg3 := grown_setCell w2 x 0 (.string (c.write (S.F x).bytes))
  have hI3 := hI2.refile hx hg3 ⟨c.write (S.F x).bytes, (S.F x).synced, (S.F x).chg⟩ rfl (heap_setCell_same _ x 0 _ _ _ HBK2.out)
  have hS3 : Stays w (w2.setCell ⟨x, 0, none⟩ (.string (c.write (S.F x).bytes))) := (Stays.below HB2.out).trans (Stays.grown hg3 (fun cs T fr e => by rw [HBK2.out] at e; cases e; exact .inr (.inl rfl)))
  have hB3 : Below base w (w2.setCell ⟨x, 0, none⟩ (.string (c.write (S.F x).bytes))) := (HB2.out.mono hbase).grown hg3 (Nat.le_trans hbase HB2.out.size) (fun r e => by cases e; exact (hI2.fil x hx).lo)
  obtain ⟨w3, hw3⟩ : ∃ w3, w3 = w2.setCell ⟨x, 0, none⟩ (.string (c.write (S.F x).bytes)) := ⟨_, rfl⟩
  rw [← hw3] at hI3 hS3 hB3 ⊢
  have HI3 := Lib.hid hI3; have HS3 := Lib.hid hS3; have HB3 := Lib.hid hB3
  clear hI2 hg3 hI3 hS3 hB3 hw3
  refine wpAnyT_done (by kernel_rfl) ?_ _
  refine only_mk ?_
  clear hna hme hfn HC
  have hfil3 := HI3.out.fil x hx
  rw [file_same] at hfil3
  have HX3 : Hid (w3.heap[x]? = some (.cells #[.string (c.write (S.F x).bytes), .string (S.F x).synced, .slice A (S.F x).chg.length kc] 84 (0, 0))) := Lib.hid (by rw [← hcv]; exact hfil3.blk)
  have HR3 := Lib.hid hfil3.row
  clear hfil3
  have HB4 := Lib.hid ((Below.refl w3.heap.size w3).alloc (Nat.le_refl _) (.cells #[.iface T v] 242))
  have HX4 := Lib.hid (heap_keep HX3.out HB4.out)
  have HI4 := Lib.hid (HI3.out.far HB4.out)
  have HR4 : Hid ((w3.alloc (.cells #[.iface T v] 242)).ownsRow base 242 1 (.slice A (S.F x).chg.length kc) (S.F x).chg.length (rcells 1 (wx (S.F x).chg) (S.F x).chg.length)) := Lib.hid (by rw [← hcv]; exact row_far HR3.out HB4.out)
  have hbt : ∀ j, j < 1 → (#[Value.iface T v])[j]? = some c.val := fun j hj => by
    obtain rfl : j = 0 := by omega
    rw [hv]; rfl
  have HRB : Hid (Row 1 (fun _ _ => c.val) (w3.alloc (.cells #[.iface T v] 242)) (some ⟨w3.heap.size, 0, none⟩) 1) := Lib.hid (row_built 1 _ w3 _ _ hbt)
  have h1c : ∀ (_ _ : Nat), (c.val).oneCell' = true := fun _ _ => by rw [hv]; rfl
  have H1C := Lib.hid h1c
  have HBS : Hid (base ≤ (w3.alloc (.cells #[.iface T v] 242)).heap.size) := Lib.hid (Nat.le_trans hbase (Nat.le_trans HB3.out.size HB4.out.size))
  have e2 : (S.file x ⟨c.write (S.F x).bytes, (S.F x).synced, (S.F x).chg⟩).file x ⟨c.write (S.F x).bytes, (S.F x).synced, (S.F x).chg ++ [c]⟩ = S.file x ((S.F x).change c) := by
    unfold Sf.St.file Sf.File.change
    congr 1
    funext k
    show (if k = x then _ else if k = x then _ else S.F k) = if k = x then _ else S.F k
    split <;> rfl
  have HFIN : Hid (∀ (v5 : Value) (w5 : World), w5.ownsRow base 242 1 v5 ((S.F x).chg.length + 1) (rcells 1 (wx (S.F x).chg) (S.F x).chg.length ++ rcells 1 (fun _ _ => c.val) 1) → (w3.alloc (.cells #[.iface T v] 242)).grownBy w5 (Value.slice A (S.F x).chg.length kc).ownBlock → (v5.ownBlock = (Value.slice A (S.F x).chg.length kc).ownBlock ∨ v5.ownBlock = some (w3.alloc (.cells #[.iface T v] 242)).heap.size) →
      (∃ A5 c5, v5 = .slice A5 ((S.F x).chg.length + 1) c5) ∧ w5.cell? ⟨x, 2, none⟩ = some (.slice A (S.F x).chg.length kc) ∧ w5.frozen? ⟨x, 2, none⟩ = false ∧
      FsL (w5.setCell ⟨x, 2, none⟩ v5) base fb (S.file x ((S.F x).change c)) L ∧ Below base w (w5.setCell ⟨x, 2, none⟩ v5) ∧ Stays w (w5.setCell ⟨x, 2, none⟩ v5)) := Lib.hid (fun v5 w5 hown5 hg5 hl5 => by
    rw [wx_snoc] at hown5
    have hlen2 : (S.F x).chg.length + 1 = ((S.F x).chg ++ [c]).length := by simp
    rw [hlen2] at hown5
    have hx6 : w5.heap[x]? = some (.cells #[.string (c.write (S.F x).bytes), .string (S.F x).synced, .slice A (S.F x).chg.length kc] 84 (0, 0)) := (hg5.block x (Array.getElem?_eq_some_iff.1 HX4.out).1 (fun e => own_ne HR4.out HX4.out (by decide) e.symm)).trans HX4.out
    have hfs := HI4.out.filePushed hx (by rw [hcv]; exact hg5) c v5 (by rw [file_same]; exact hown5) (by rw [hcv]; exact hl5)
    rw [file_same] at hfs
    rw [e2] at hfs
    have hB6 : Below base w w5 := ((HB3.out.trans (HB4.out.mono (Nat.le_trans hbase HB3.out.size))).mono (Nat.le_refl _)).grown hg5 HBS.out (fun r e => (HR4.out.lt r e).1)
    have hS6 : Stays w w5 := (HS3.out.trans (Stays.below HB4.out)).trans (Stays.row HR4.out (.inr rfl) hg5)
    have hgs := grown_setCell w5 x 2 v5
    have hlx : base ≤ x := (HI.out.fil x hx).lo
    obtain ⟨A5, c5, e5, -⟩ := own_row hown5
    refine ⟨⟨A5, c5, by rw [e5, hlen2]⟩, cell_of_row _ _ _ _ _ _ hx6, frozen_of_row _ _ _ _ _ hx6, ⟨mb, sb, _, _, hfs⟩, hB6.grown hgs (Nat.le_trans hbase hB6.size) (fun r e => by cases e; exact hlx), hS6.trans (Stays.grown hgs (fun cs T fr e => by rw [hx6] at e; cases e; exact .inr (.inl rfl)))⟩)
  have x2 : w3.cell? ⟨x, 2, none⟩ = some (.slice A (S.F x).chg.length kc) := cell_of_row _ _ _ _ _ _ HX3.out
  have hl9 : (S.F x).chg.length + 1 ≤ 1000000 := by omega
  have HL9 := Lib.hid hl9
  clear hbt h1c e2 hcv hlen hl9
  go_wp2_with (at_builtin; (refine wpList_append_row_at _ rfl _ _ 82 242 rfl 1 16 .nilIface Tryz.underlying82 infoWr rfl (by decide) (by decide) base _ (S.F x).chg.length (rcells 1 (wx (S.F x).chg) (S.F x).chg.length) rfl HR4.out ⟨w3.heap.size, 0, none⟩ 1 1 (fun _ _ => c.val) H1C.out rfl HRB.out HL9.out HBS.out ?_); intro v5 w5 hown5 hg5 hl5; obtain ⟨⟨A5, c5, rfl⟩, z2, f2, hfin⟩ := HFIN.out v5 w5 hown5 hg5 hl5; have HEND := Lib.hid hfin; clear hown5 hg5 hl5 hfin)
  go_end0
  exact ⟨rfl, HEND.out⟩
end Go.Proofs.YtfibapfehgglhaaGreatDoor
/-
  Cut, Sync.
-/
namespace Go.Proofs.YtfibapfehgglhaaGreatDoor
open Go.RowKit
namespace Sf
/-- a change of a file: a step -/
def St.fileDo (S : St) (x : Nat) (y : File) : St × Int := if S.fuse = 0 then (S.kill, 13) else (S.tick.file x y, 0)
def St.cut (S : St) (s : ByteArray) (n : Int) : St × Int :=
  if S.dead then (S, 13) else match look S.names s with
  | none => (S, 11)
  | some x => if n < 0 ∨ ((S.F x).bytes.size : Int) < n then (S, 1) else S.fileDo x ((S.F x).change (.cut n.toNat))
def St.sync (S : St) (s : ByteArray) : St × Int :=
  if S.dead then (S, 13) else match look S.names s with
  | none => (S, 11)
  | some x => S.fileDo x (whole (S.F x).bytes)
end Sf
theorem Stepped.file {w : World} {base fb : Nat} {S : Sf.St} {x : Nat} {y : Sf.File} {e : Ending} {w' : World} (h : Stepped w base fb S (S.tick.file x y) (Sf.live S.synced S.chg) e w') : e = .returned (.int .i64 (S.fileDo x y).2) ∧ Left w base fb (S.fileDo x y).1 w' := by
  unfold Sf.St.fileDo
  rcases h with ⟨h0, h1, h2, h3, h4⟩ | ⟨h0, h1, h2, h3, h4⟩
  · rw [if_pos h0]
    exact ⟨h1, h2, h3, h4⟩
  · rw [if_neg h0]
    exact ⟨h1, h2, h3, h4⟩
/-- a step whose doing is told -/
theorem stepped_of {w w2 : World} {base fb B N : Nat} {S S2 : Sf.St} {L : Nat → Prop} {mb sb : Nat} {cv : Value} {cvs : Nat → Value} (h : FsIn w base fb S L mb sb cv cvs) (hbase : base ≤ w.heap.size) (hok : Sf.StOk B N S) (hN : N ≤ 1000000) (k : Nat) (caps : Array Value) (he : ∀ args w, (callFunc k args).run Tryz.prog w = .ok (.enter k args) w)
    (hw : Below base w2 w) (hst : Stays w2 w)
    (hdo : ∀ U, w.grownBy U (some fb) → FsIn U base fb S.tick L mb sb cv cvs → base ≤ U.heap.size → Calls Tryz.prog k caps U fun e w' => e = .returned (.tuple #[]) ∧ FsL w' base fb S2 L ∧ Below base U w' ∧ Stays U w') :
    Calls Tryz.prog 90 #[.pointer (some ⟨fb, 0, none⟩), .func (.func k) #[] caps] w (Stepped w2 base fb S S2 L) := by
  have hg2 : ∀ U, w.grownBy U (some fb) → Below base w U ∧ Stays w U := fun U hg => ⟨(Below.refl base w).grown hg hbase (fun r e => by cases e; exact h.lo), fs_stays h.blk hg⟩
  refine (step_any h hok hN k caps he (fun w' => FsL w' base fb S2 L ∧ Below base w w' ∧ Stays w w') (fun _ U hg hU => ?_)).mono ?_
  · obtain ⟨h1, h2⟩ := hg2 U hg
    refine (hdo U hg hU (Nat.le_trans hbase h1.size)).mono ?_
    rintro e w' ⟨he, a, b, c⟩
    exact ⟨he, a, h1.trans b, h2.trans c⟩
  · rintro e w' (⟨h0, h1, h2, hg⟩ | ⟨h0, h1, a, b, c⟩)
    · obtain ⟨h3, h4⟩ := hg2 w' hg
      exact .inl ⟨h0, h1, ⟨mb, sb, cv, cvs, h2⟩, hw.trans h3, hst.trans h4⟩
    · exact .inr ⟨h0, h1, a, hw.trans b, hst.trans c⟩
set_option maxRecDepth 100000 in
theorem cutDo_any {w : World} {base fb B N : Nat} {S : Sf.St} {L : Nat → Prop} (h : FsL w base fb S L) (hbase : base ≤ w.heap.size) {x : Nat} (hx : L x) (hf : Sf.FileOk B N (S.F x)) (hN : N ≤ 1000) (hB : B ≤ 1000000000) (n : Nat) (hn : n ≤ (S.F x).bytes.size) (xb nb : Nat)
    (hxb : w.heap[xb]? = some (.cells #[.pointer (some ⟨x, 0, none⟩)] 79 (0, 0))) (hnb : w.heap[nb]? = some (.cells #[.int .i64 (n : Int)] 3 (0, 0))) :
    Calls Tryz.prog 91 #[.pointer (some ⟨xb, 0, none⟩), .pointer (some ⟨nb, 0, none⟩)] w fun e w' => e = .returned (.tuple #[]) ∧ FsL w' base fb (S.file x ((S.F x).change (.cut n))) L ∧ Below base w w' ∧ Stays w w' := by
  have HC := Lib.hid (change_any h hbase hx hf hN hB (.cut n) hn)
  have c0 : w.cell? ⟨xb, 0, none⟩ = some (.pointer (some ⟨x, 0, none⟩)) := cell_of_row _ _ _ _ _ _ hxb
  have c1 : w.cell? ⟨nb, 0, none⟩ = some (.int .i64 (n : Int)) := cell_of_row _ _ _ _ _ _ hnb
  clear h hxb hnb hf
  go_enter Tryz.func91, Tryz.ntmps91
  go_wp2_with fail
  refine HC.out.mono ?_; rintro e w2 ⟨rfl, hr⟩
  have HR := Lib.hid hr
  clear hr
  go_wp2_with fail
  go_end0
  exact ⟨rfl, HR.out⟩
set_option maxRecDepth 100000 in
set_option maxHeartbeats 2000000 in
theorem Cut_any {w : World} {base fb B N : Nat} {S : Sf.St} (h : FsAt w base fb S) (hbase : base ≤ w.heap.size) (hok : Sf.StOk B N S) (hN : N ≤ 999) (hB : B ≤ 1000000000) (s : ByteArray) (hs : s.size ≤ maxLen) (n : Int) :
    Calls Tryz.prog 47 #[.pointer (some ⟨fb, 0, none⟩), .string s, .int .i64 n] w fun e w' => e = .returned (.int .i64 (S.cut s n).2) ∧ Left w base fb (S.cut s n).1 w' := by
  obtain ⟨w1, hw1⟩ : ∃ w1, w1 = w.alloc (.cells #[.int .i64 n] 3) := ⟨_, rfl⟩
  obtain ⟨nb, hnb⟩ : ∃ nb, nb = w.heap.size := ⟨_, rfl⟩
  have hb1 : Below w.heap.size w w1 := by rw [hw1]; exact (Below.refl _ _).alloc (Nat.le_refl _) _
  have hc1 : w1.heap[nb]? = some (.cells #[.int .i64 n] 3 (0, 0)) := by rw [hw1, hnb]; exact heap_alloc_new w _
  have hz1 : w1.heap.size = nb + 1 := by rw [hw1, hnb]; simp
  have HZ1 := Lib.hid hz1
  have HFI := Lib.hid (find_any (h.far hb1) hok.nice s hs)
  have HL : Hid (∀ v : Value, Left w base fb S (w1.alloc (.cells #[v] 79))) := Lib.hid (fun v => by
    have hb2 := below_step hb1 ((Below.refl w1.heap.size w1).alloc (Nat.le_refl _) (.cells #[v] 79))
    exact ⟨h.far hb2, hb2.mono hbase, Stays.below hb2⟩)
  rcases Sf.find_cases S s with ⟨x, e, hd, hl⟩ | ⟨e, hd, hl⟩ | ⟨e, hd⟩
  · simp only [e, ptrV, Option.map_some] at HFI
    obtain ⟨w2, hw2⟩ : ∃ w2, w2 = w1.alloc (.cells #[.pointer (some ⟨x, 0, none⟩)] 79) := ⟨_, rfl⟩
    have hb2 : Below w1.heap.size w1 w2 := by rw [hw2]; exact (Below.refl _ _).alloc (Nat.le_refl _) _
    have hx2 : w2.heap[nb + 1]? = some (.cells #[.pointer (some ⟨x, 0, none⟩)] 79 (0, 0)) := by rw [hw2, ← hz1]; exact heap_alloc_new w1 _
    have hn2 := heap_keep hc1 hb2
    have hB2 := below_step hb1 hb2
    obtain ⟨mb, sb, cv, cvs, hfs⟩ := FsL.far h hB2
    have hlive := hok.lives hl
    have hfo := hok.file x hlive
    have HX2 := Lib.hid hx2; have HN2 := Lib.hid hn2
    have HFB := Lib.hid (hfs.fil x hlive).blk
    have HLL := Lib.hid (HL.out (.pointer (some ⟨x, 0, none⟩)))
    rw [← hw2] at HLL
    have HSTEP : Hid (0 ≤ n → n ≤ ((S.F x).bytes.size : Int) → ∀ V, Below w2.heap.size w2 V → Calls Tryz.prog 90 #[.pointer (some ⟨fb, 0, none⟩), .func (.func 91) #[] #[.pointer (some ⟨nb + 1, 0, none⟩), .pointer (some ⟨nb, 0, none⟩)]] V (Stepped w base fb S (S.tick.file x ((S.F x).change (.cut n.toNat))) (Sf.live S.synced S.chg))) := Lib.hid (fun hn0 hn1 V hV => by
      have hfV := hfs.far hV
      have hBV := below_step hB2 hV
      have hxV := heap_keep hx2 hV
      have hnV := heap_keep hn2 hV
      refine stepped_of hfV (Nat.le_trans hbase hBV.size) hok (by omega) _ _ (enters_of Tryz.func91 (by kernel_rfl) rfl) (hBV.mono hbase) (Stays.below hBV) (fun U hg hU hbU => ?_)
      have hne : ∀ {g : Nat} {cs : Array Value} {T : TypeId}, V.heap[g]? = some (.cells cs T (0, 0)) → T ≠ 51 → g ≠ fb := fun hgc hT e => by
        rw [e, hfV.blk] at hgc
        injection hgc with hgc
        injection hgc with _ hgc
        exact hT hgc.symm
      have e1 : (n.toNat : Int) = n := Int.toNat_of_nonneg hn0
      refine cutDo_any (S := S.tick) (B := B) (N := N + 1) ⟨mb, sb, cv, cvs, hU⟩ hbU hlive (hfo.mono (Nat.le_refl _) (Nat.le_succ _)) (by omega) hB n.toNat (show n.toNat ≤ (S.F x).bytes.size by omega) (nb + 1) nb (grown_keep hxV hg (hne hxV (by decide))) ?_
      rw [e1]
      exact grown_keep hnV hg (hne hnV (by decide)))
    have e3 : S.cut s n = if n < 0 ∨ ((S.F x).bytes.size : Int) < n then (S, 1) else S.fileDo x ((S.F x).change (.cut n.toNat)) := by unfold Sf.St.cut; rw [hd, hl]; rfl
    obtain ⟨r, hr⟩ : ∃ r, r = S.cut s n := ⟨_, rfl⟩
    rw [← hr]
    rw [e3] at hr
    have HR := Lib.hid hr
    clear h hok e hd hl hb1 hc1 hz1 hb2 hx2 hn2 hB2 hfs hlive hfo e3 hr
    have hmf := run_make_func
    generalize hsz : (S.F x).bytes.size = sz at *
    go_enter Tryz.func47, Tryz.ntmps47
    go_wp2_with fail
    rw [← hw1, ← hnb]
    clear hw1 hnb
    refine HFI.out.mono ?_; rintro e w9 ⟨rfl, rfl⟩
    go_wp2_with fail
    rw [← hw2, HZ1.out]
    clear hw2
    refine plain_T (fun U => Below w2.heap.size w2 U) [] (by kernel_rfl) ?_
    have HD : Hid (Below w2.heap.size w2 w2.drew) := Lib.hid (Below.refl _ _).drew
    generalize w2.drew = wd at HD ⊢
    have HCELL : Hid (∀ U, Below w2.heap.size w2 U → U.cell? ⟨nb, 0, none⟩ = some (.int .i64 n) ∧ U.cell? ⟨nb + 1, 0, none⟩ = some (.pointer (some ⟨x, 0, none⟩)) ∧ U.cell? ⟨x, 0, none⟩ = some (.string (S.F x).bytes)) := Lib.hid (fun U hU => ⟨cell_of_row _ _ _ _ _ _ (heap_keep HN2.out hU), cell_of_row _ _ _ _ _ _ (heap_keep HX2.out hU), cell_of_row _ _ _ _ _ _ (heap_keep HFB.out hU)⟩)
    by_cases hneg : n < 0
    · have d0 : decide (n < 0) = true := decide_eq_true hneg
      refine zq (S := (fun U => Below w2.heap.size w2 U)) (w := wd) HD.out [0, 1, 2, 3, 4, 5, 6, 7, 8, 9, 10] 0 ?_
      refine zp 18 (.int .i64 n) ?_ (hy := fun U hU => (by obtain ⟨h0, h1, h2⟩ := HCELL.out U hU; go_simp))
      refine zp 19 (.bool true) ?_
      refine zp 20 (.bool true) ?_
      refine zk 21 ?_
      refine zk 22 ?_
      refine zk 23 ?_
      refine zk 24 ?_
      refine zk 25 ?_
      refine zk 26 ?_
      refine zk 27 ?_
      refine zp 28 (.bool true) ?_
      simp only [zx]
      refine wpAnyT_done (by kernel_rfl) ?_ _
      refine only_mk ?_
      have HFIN : Hid (Left w base fb S wd) := Lib.hid ⟨HLL.out.fs.far HD.out, HLL.out.bel.trans (HD.out.mono (HLL.out.bel.size |> Nat.le_trans hbase)), HLL.out.st.trans (Stays.below HD.out)⟩
      have hr := HR.out.trans (if_pos (.inl hneg))
      go_wp2_with fail
      go_ret
      first | exact ⟨rfl, HFIN.out⟩ | (rw [hr]; exact ⟨rfl, HFIN.out⟩)
    · have d0 : decide (n < 0) = false := decide_eq_false hneg
      by_cases hbig : (sz : Int) < n
      · have d1 : decide ((sz : Int) < n) = true := decide_eq_true hbig
        refine zq (S := (fun U => Below w2.heap.size w2 U)) (w := wd) HD.out [0, 1, 2, 3, 4, 5, 6, 7, 8, 9, 10] 0 ?_
        refine zp 18 (.int .i64 n) ?_ (hy := fun U hU => (by obtain ⟨h0, h1, h2⟩ := HCELL.out U hU; go_simp))
        refine zp 19 (.bool false) ?_
        refine zp 20 (.bool false) ?_
        refine zp 21 (.int .i64 n) ?_ (hy := fun U hU => (by obtain ⟨h0, h1, h2⟩ := HCELL.out U hU; go_simp))
        refine zp 22 (.pointer (some ⟨x, 0, none⟩)) ?_ (hy := fun U hU => (by obtain ⟨h0, h1, h2⟩ := HCELL.out U hU; go_simp))
        refine zp 23 (.pointer (some ⟨x, 0, none⟩)) ?_
        refine zp 24 (.pointer (some ⟨x, 0, none⟩)) ?_
        refine zp 25 (.string (S.F x).bytes) ?_ (hy := fun U hU => (by obtain ⟨h0, h1, h2⟩ := HCELL.out U hU; go_simp))
        refine zp 26 (.int .i64 (sz : Int)) ?_
        refine zp 27 (.bool true) ?_
        refine zp 28 (.bool true) ?_
        simp only [zx]
        refine wpAnyT_done (by kernel_rfl) ?_ _
        refine only_mk ?_
        have HFIN : Hid (Left w base fb S wd) := Lib.hid ⟨HLL.out.fs.far HD.out, HLL.out.bel.trans (HD.out.mono (HLL.out.bel.size |> Nat.le_trans hbase)), HLL.out.st.trans (Stays.below HD.out)⟩
        have hr := HR.out.trans (if_pos (.inr hbig))
        go_wp2_with fail
        go_ret
        first | exact ⟨rfl, HFIN.out⟩ | (rw [hr]; exact ⟨rfl, HFIN.out⟩)
      · have d1 : decide ((sz : Int) < n) = false := decide_eq_false hbig
        refine zq (S := (fun U => Below w2.heap.size w2 U)) (w := wd) HD.out [0, 1, 2, 3, 4, 5, 6, 7, 8, 9, 10] 0 ?_
        refine zp 18 (.int .i64 n) ?_ (hy := fun U hU => (by obtain ⟨h0, h1, h2⟩ := HCELL.out U hU; go_simp))
        refine zp 19 (.bool false) ?_
        refine zp 20 (.bool false) ?_
        refine zp 21 (.int .i64 n) ?_ (hy := fun U hU => (by obtain ⟨h0, h1, h2⟩ := HCELL.out U hU; go_simp))
        refine zp 22 (.pointer (some ⟨x, 0, none⟩)) ?_ (hy := fun U hU => (by obtain ⟨h0, h1, h2⟩ := HCELL.out U hU; go_simp))
        refine zp 23 (.pointer (some ⟨x, 0, none⟩)) ?_
        refine zp 24 (.pointer (some ⟨x, 0, none⟩)) ?_
        refine zp 25 (.string (S.F x).bytes) ?_ (hy := fun U hU => (by obtain ⟨h0, h1, h2⟩ := HCELL.out U hU; go_simp))
        refine zp 26 (.int .i64 (sz : Int)) ?_
        refine zp 27 (.bool false) ?_
        refine zp 28 (.bool false) ?_
        simp only [zx]
        refine wpAnyT_done (by kernel_rfl) ?_ _
        refine only_mk ?_
        have HST := Lib.hid (HSTEP.out (by omega) (by omega) wd HD.out)
        clear HSTEP HCELL HN2 HX2 HFB
        go_wp2_with fail
        refine HST.out.mono ?_; rintro e w4 hst
        obtain ⟨he, hleft⟩ := hst.file
        rw [← HR.out.trans (if_neg (fun h => by rcases h with h | h <;> omega))] at he hleft
        subst he
        have HLE := Lib.hid hleft
        clear hst hleft
        go_wp2_with fail
        go_ret
        exact ⟨rfl, HLE.out⟩
  all_goals
    simp only [e, ptrV, Option.map_none] at HFI
    have HLN := Lib.hid (HL.out (.pointer none))
    have er : S.cut s n = (S, (S.find s).2) := by
      rw [e]
      unfold Sf.St.cut
      first
        | (rw [hd, hl]; rfl)
        | (rw [hd]; rfl)
    rw [er, e]
    clear h hok e er hb1 hc1 hz1 HL
    go_enter Tryz.func47, Tryz.ntmps47
    go_wp2_with fail
    rw [← hw1, ← hnb]
    clear hw1 hnb
    refine HFI.out.mono ?_; rintro e w9 ⟨rfl, rfl⟩
    go_wp2_with fail
    go_ret
    exact ⟨rfl, HLN.out⟩
end Go.Proofs.YtfibapfehgglhaaGreatDoor
