import Derived.Test.YtfibapfehgglhaaGreatDoorSfS
import Derived.BigQuiet
/-
  Append.
-/
namespace Go.Proofs.YtfibapfehgglhaaGreatDoor
open Go.RowKit
namespace Sf
def St.append (S : St) (s b : ByteArray) : St × Int :=
  if S.dead then (S, 13) else match look S.names s with
  | none => (S, 11)
  | some x => if S.room < (S.total : Int) + (b.size : Int) then (S, 8) else S.fileDo x ((S.F x).change (.app b))
end Sf
set_option maxRecDepth 100000 in
theorem appendDo_any {w : World} {base fb B N : Nat} {S : Sf.St} {L : Nat → Prop} (h : FsL w base fb S L) (hbase : base ≤ w.heap.size) {x : Nat} (hx : L x) (hf : Sf.FileOk B N (S.F x)) (hN : N ≤ 1000) (hB : B ≤ 1000000000) (b : ByteArray) (hn : (S.F x).bytes.size + b.size ≤ B) (xb nb : Nat)
    (hxb : w.heap[xb]? = some (.cells #[.pointer (some ⟨x, 0, none⟩)] 79 (0, 0))) (hnb : w.heap[nb]? = some (.cells #[.string b] 9 (0, 0))) :
    Calls Tryz.prog 138 #[.pointer (some ⟨xb, 0, none⟩), .pointer (some ⟨nb, 0, none⟩)] w fun e w' => e = .returned (.tuple #[]) ∧ FsL w' base fb (S.file x ((S.F x).change (.app b))) L ∧ Below base w w' ∧ Stays w w' := by
  have HC := Lib.hid (change_any h hbase hx hf hN hB (.app b) hn)
  have c0 : w.cell? ⟨xb, 0, none⟩ = some (.pointer (some ⟨x, 0, none⟩)) := cell_of_row _ _ _ _ _ _ hxb
  have c1 : w.cell? ⟨nb, 0, none⟩ = some (.string b) := cell_of_row _ _ _ _ _ _ hnb
  clear h hxb hnb hf
  go_enter Tryz.func138, Tryz.ntmps138
  go_wp2_with fail
  refine HC.out.mono ?_; rintro e w2 ⟨rfl, hr⟩
  have HR := Lib.hid hr
  clear hr
  go_wp2_with fail
  go_end0
  exact ⟨rfl, HR.out⟩
set_option maxRecDepth 100000 in
set_option maxHeartbeats 2000000 in
theorem Append_any {w : World} {base fb B N : Nat} {S : Sf.St} (h : FsAt w base fb S) (hbase : base ≤ w.heap.size) (hok : Sf.StOk B N S) (hN : N ≤ 999) (hB : B ≤ 100000000) (s : ByteArray) (hs : s.size ≤ maxLen) (b : ByteArray) (hbz : b.size ≤ 300) :
    Calls Tryz.prog 85 #[.pointer (some ⟨fb, 0, none⟩), .string s, .string b] w fun e w' => e = .returned (.int .i64 (S.append s b).2) ∧ Left w base fb (S.append s b).1 w' := by
  obtain ⟨w1, hw1⟩ : ∃ w1, w1 = w.alloc (.cells #[.string b] 9) := ⟨_, rfl⟩
  obtain ⟨nb, hnb⟩ : ∃ nb, nb = w.heap.size := ⟨_, rfl⟩
  have hb1 : Below w.heap.size w w1 := by rw [hw1]; exact (Below.refl _ _).alloc (Nat.le_refl _) _
  have hc1 : w1.heap[nb]? = some (.cells #[.string b] 9 (0, 0)) := by rw [hw1, hnb]; exact heap_alloc_new w _
  have hz1 : w1.heap.size = nb + 1 := by rw [hw1, hnb]; simp
  have HZ1 := Lib.hid hz1
  have HFI := Lib.hid (find_any (h.far hb1) hok.nice s hs)
  have HL : Hid (∀ v : Value, Left w base fb S (w1.alloc (.cells #[v] 79))) := Lib.hid (fun v => by
    have hb2 := below_step hb1 ((Below.refl w1.heap.size w1).alloc (Nat.le_refl _) (.cells #[v] 79))
    exact ⟨h.far hb2, hb2.mono hbase, Stays.below hb2⟩)
  rcases Sf.find_cases S s with ⟨x, e, hd, hl⟩ | ⟨e, hd, hl⟩ | ⟨e, hd⟩
  · simp only [e, ptrV, Option.map_some] at HFI
    obtain ⟨w2, hw2⟩ : ∃ w2, w2 = w1.alloc (.cells #[.pointer (some ⟨x, 0, none⟩)] 79) := ⟨_, rfl⟩
    have hb2 : Below w1.heap.size w1 w2 := by rw [hw2]; exact (Below.refl _ _).alloc (Nat.le_refl _) _
    have hx2 : w2.heap[nb + 1]? = some (.cells #[.pointer (some ⟨x, 0, none⟩)] 79 (0, 0)) := by rw [hw2, ← hz1]; exact heap_alloc_new w1 _
    have hn2 := heap_keep hc1 hb2
    have hB2 := below_step hb1 hb2
    obtain ⟨mb, sb, cv, cvs, hfs⟩ := FsL.far h hB2
    have hlive := hok.lives hl
    have hfo := hok.file x hlive
    have hmx := Sf.FileOk.size hfo
    have HX2 := Lib.hid hx2; have HN2 := Lib.hid hn2
    have HFB := Lib.hid hfs.blk
    have HLL := Lib.hid (HL.out (.pointer (some ⟨x, 0, none⟩)))
    rw [← hw2] at HLL
    have HSTEP : Hid (∀ V, Below w2.heap.size w2 V → Calls Tryz.prog 90 #[.pointer (some ⟨fb, 0, none⟩), .func (.func 138) #[] #[.pointer (some ⟨nb + 1, 0, none⟩), .pointer (some ⟨nb, 0, none⟩)]] V (Stepped w base fb S (S.tick.file x ((S.F x).change (.app b))) (Sf.live S.synced S.chg))) := Lib.hid (fun V hV => by
      have hfV := hfs.far hV
      have hBV := below_step hB2 hV
      have hxV := heap_keep hx2 hV
      have hnV := heap_keep hn2 hV
      refine stepped_of hfV (Nat.le_trans hbase hBV.size) hok (by omega) _ _ (enters_of Tryz.func138 (by kernel_rfl) rfl) (hBV.mono hbase) (Stays.below hBV) (fun U hg hU hbU => ?_)
      have hne : ∀ {g : Nat} {cs : Array Value} {T : TypeId}, V.heap[g]? = some (.cells cs T (0, 0)) → T ≠ 51 → g ≠ fb := fun hgc hT e => by
        rw [e, hfV.blk] at hgc
        injection hgc with hgc
        injection hgc with _ hgc
        exact hT hgc.symm
      exact appendDo_any (S := S.tick) (B := B + 300) (N := N + 1) ⟨mb, sb, cv, cvs, hU⟩ hbU hlive (hfo.mono (Nat.le_add_right _ _) (Nat.le_succ _)) (by omega) (by omega) b (show (S.F x).bytes.size + b.size ≤ B + 300 by omega) (nb + 1) nb (grown_keep hxV hg (hne hxV (by decide))) (grown_keep hnV hg (hne hnV (by decide))))
    have e3 : S.append s b = if S.room < (S.total : Int) + (b.size : Int) then (S, 8) else S.fileDo x ((S.F x).change (.app b)) := by unfold Sf.St.append; rw [hd, hl]; rfl
    have HSZ : Hid (∀ V, Below w2.heap.size w2 V → Calls Tryz.prog 95 #[.pointer (some ⟨fb, 0, none⟩)] V fun e w' => e = .returned (.int .i64 ((S.total : Nat) : Int)) ∧ Below V.heap.size V w') := Lib.hid (fun V hV => Size_any (show FsAt V base fb S from ⟨mb, sb, cv, cvs, hfs.far hV⟩) hok (by omega))
    have htot := hok.total
    have hwr : IntKind.i64.wrap ((S.total : Int) + (b.size : Int)) = (S.total : Int) + (b.size : Int) := IntWalk.i64_in _ (by omega)
    have HWR := Lib.hid hwr
    obtain ⟨r, hr⟩ : ∃ r, r = S.append s b := ⟨_, rfl⟩
    rw [← hr]
    rw [e3] at hr
    have HR := Lib.hid hr
    clear h hok e hd hl hb1 hc1 hz1 hb2 hx2 hn2 hB2 hfs hlive hfo e3 hr hmx htot hwr
    have hmf := run_make_func
    go_enter Tryz.func85, Tryz.ntmps85
    go_wp2_with fail
    rw [← hw1, ← hnb]
    clear hw1 hnb
    refine HFI.out.mono ?_; rintro e w9 ⟨rfl, rfl⟩
    go_wp2_with fail
    rw [← hw2, HZ1.out]
    clear hw2
    refine plain_T (fun U => Below w2.heap.size w2 U) [] (by kernel_rfl) ?_
    have HD : Hid (Below w2.heap.size w2 w2.drew) := Lib.hid (Below.refl _ _).drew
    generalize w2.drew = wd at HD ⊢
    have HCELL : Hid (∀ U, Below w2.heap.size w2 U → U.cell? ⟨nb, 0, none⟩ = some (.string b) ∧ U.cell? ⟨fb, 3, none⟩ = some (.int .i64 S.room)) := Lib.hid (fun U hU => ⟨cell_of_row _ _ _ _ _ _ (heap_keep HN2.out hU), cell_of_row _ _ _ _ _ _ (heap_keep HFB.out hU)⟩)
    generalize hsz : S.total = tt at *
    generalize hbz2 : b.size = bz at *
    refine zq (S := (fun U => Below w2.heap.size w2 U)) (w := wd) HD.out [0, 2, 3, 5, 6, 7, 8] 3 ?_
    refine zp 18 (.pointer (some ⟨fb, 0, none⟩)) ?_
    refine zp 20 (.string b) ?_ (hy := fun U hU => (by obtain ⟨h0, h1⟩ := HCELL.out U hU; go_simp))
    refine zp 21 (.int .i64 (bz : Int)) ?_
    refine zp 23 (.pointer (some ⟨fb, 0, none⟩)) ?_
    refine zp 24 (.pointer (some ⟨fb, 0, none⟩)) ?_
    refine zp 25 (.pointer (some ⟨fb, 3, none⟩)) ?_
    refine zp 26 (.int .i64 S.room) ?_ (hy := fun U hU => (by obtain ⟨h0, h1⟩ := HCELL.out U hU; go_simp))
    simp only [zx]
    refine zo 1 ?_
    intro K hK
    unfold Oper.wp
    go_simp
    refine (HSZ.out wd HD.out).mono ?_; rintro e w3 ⟨rfl, hb3⟩
    have HD3 := Lib.hid (below_step HD.out hb3)
    clear hb3
    refine hK _ _ (fun _ => HD3.out) ?_
    clear hK K
    have hwr := HWR.out
    by_cases hfull : S.room < (tt : Int) + (bz : Int)
    · have d0 : decide (S.room < (tt : Int) + (bz : Int)) = true := decide_eq_true hfull
      refine zq (S := (fun U => Below w2.heap.size w2 U)) (w := w3) HD3.out [4, 9] 0 ?_
      refine zp 22 (.int .i64 ((tt : Int) + (bz : Int))) ?_
      refine zp 27 (.bool true) ?_
      simp only [zx]
      refine wpAnyT_done (by kernel_rfl) ?_ _
      refine only_mk ?_
      have HFIN : Hid (Left w base fb S w3) := Lib.hid ⟨HLL.out.fs.far HD3.out, HLL.out.bel.trans (HD3.out.mono (HLL.out.bel.size |> Nat.le_trans hbase)), HLL.out.st.trans (Stays.below HD3.out)⟩
      have hr := HR.out.trans (if_pos hfull)
      go_wp2_with fail
      go_ret
      first | exact ⟨rfl, HFIN.out⟩ | (rw [hr]; exact ⟨rfl, HFIN.out⟩)
    · have d0 : decide (S.room < (tt : Int) + (bz : Int)) = false := decide_eq_false hfull
      refine zq (S := (fun U => Below w2.heap.size w2 U)) (w := w3) HD3.out [4, 9] 0 ?_
      refine zp 22 (.int .i64 ((tt : Int) + (bz : Int))) ?_
      refine zp 27 (.bool false) ?_
      simp only [zx]
      refine wpAnyT_done (by kernel_rfl) ?_ _
      refine only_mk ?_
      have HST := Lib.hid (HSTEP.out w3 HD3.out)
      clear HSTEP HCELL HN2 HX2 HFB HSZ hwr HWR
      go_wp2_with fail
      refine HST.out.mono ?_; rintro e w4 hst
      obtain ⟨he, hleft⟩ := hst.file
      rw [← HR.out.trans (if_neg (by omega))] at he hleft
      subst he
      have HLE := Lib.hid hleft
      clear hst hleft
      go_wp2_with fail
      go_ret
      exact ⟨rfl, HLE.out⟩
  all_goals
    simp only [e, ptrV, Option.map_none] at HFI
    have HLN := Lib.hid (HL.out (.pointer none))
    have er : S.append s b = (S, (S.find s).2) := by
      rw [e]
      unfold Sf.St.append
      first
        | (rw [hd, hl]; rfl)
        | (rw [hd]; rfl)
    rw [er, e]
    clear h hok e er hb1 hc1 hz1 HL
    go_enter Tryz.func85, Tryz.ntmps85
    go_wp2_with fail
    rw [← hw1, ← hnb]
    clear hw1 hnb
    refine HFI.out.mono ?_; rintro e w9 ⟨rfl, rfl⟩
    go_wp2_with fail
    go_ret
    exact ⟨rfl, HLN.out⟩
end Go.Proofs.YtfibapfehgglhaaGreatDoor
/-
  A file crashes.
-/
namespace Go.Proofs.YtfibapfehgglhaaGreatDoor
open Go.RowKit
theorem nil_torn (T : TypeId) (f : Nat) (v : Value) (h : (T = 237 ∧ f = 435) ∨ (T = 170 ∧ f = 434)) (w : World) :
    (nilAhead 616 T v "alluvium/simfs.torn").run Tryz.prog w = .ok (some false) w ∧ (method 616 T v "alluvium/simfs.torn").run Tryz.prog w = .ok (f, v) w := by
  rcases h with ⟨rfl, rfl⟩ | ⟨rfl, rfl⟩
  · exact ⟨by kernel_rfl, by kernel_rfl⟩
  · exact ⟨by kernel_rfl, by kernel_rfl⟩
theorem take_succ_getD {c0 : Sf.Wr} : ∀ (L : List Sf.Wr) (i : Nat), i < L.length → L.take (i + 1) = L.take i ++ [L.getD i c0]
  | [], _, h => absurd h (Nat.not_lt_zero _)
  | _ :: _, 0, _ => rfl
  | c :: L, i + 1, h => by
    have := take_succ_getD (c0 := c0) L i (by simpa using h)
    simp only [List.take_succ_cons, List.cons_append, this]
    simp
theorem getD_getElem {c0 : Sf.Wr} (L : List Sf.Wr) (i : Nat) (h : i < L.length) : L.getD i c0 = L[i] := by simp [List.getD, h]
end Go.Proofs.YtfibapfehgglhaaGreatDoor
/-
  A machine crashes: its names.
-/
namespace Go.Proofs.YtfibapfehgglhaaGreatDoor
open Go.RowKit
theorem nm_iface (c : Sf.Nm) : ∃ T v f, c.val = .iface T v ∧ (∀ U, (nilAhead 616 T v "alluvium/simfs.name").run Tryz.prog U = .ok (some false) U) ∧ (∀ U, (method 616 T v "alluvium/simfs.name").run Tryz.prog U = .ok (f, v) U) ∧ (∀ args w, (callFunc f args).run Tryz.prog w = .ok (.enter f args) w) ∧
    ∀ (d : Sf.D) (w : World) (b : Nat), Sf.Nice d → c.ok d → NamesAt w b d → Calls Tryz.prog f #[v, .map (some b)] w fun e w' => e = .returned (.tuple #[]) ∧ NamesAt w' b (c.app d) ∧ w.grownBy w' (some b) := by
  have h100 : 100 ≤ maxLen := by unfold maxLen; omega
  cases c with
  | cre s h =>
    refine ⟨_, _, _, rfl, fun U => (nil_name _ _ _ (.inl ⟨rfl, rfl⟩) U).1, fun U => (nil_name _ _ _ (.inl ⟨rfl, rfl⟩) U).2, enters_of Tryz.func426 (by kernel_rfl) rfl, ?_⟩
    intro d w b hn hc hm
    exact created_any s h w b d (Nat.le_trans hc h100) hm (Nat.le_trans hn.few (by decide))
  | ren a t =>
    refine ⟨_, _, _, rfl, fun U => (nil_name _ _ _ (.inr (.inl ⟨rfl, rfl⟩)) U).1, fun U => (nil_name _ _ _ (.inr (.inl ⟨rfl, rfl⟩)) U).2, enters_of Tryz.func428 (by kernel_rfl) rfl, ?_⟩
    intro d w b hn hc hm
    obtain ⟨⟨x, hx⟩, ht⟩ := hc
    exact renamed_any a t x w b d (Nat.le_trans (hn.short a (Sf.look_some hx)) h100) (Nat.le_trans ht h100) hm hn.files hn.tidy hx (Nat.le_trans hn.few (by decide))
  | rem a =>
    refine ⟨_, _, _, rfl, fun U => (nil_name _ _ _ (.inr (.inr ⟨rfl, rfl⟩)) U).1, fun U => (nil_name _ _ _ (.inr (.inr ⟨rfl, rfl⟩)) U).2, enters_of Tryz.func425 (by kernel_rfl) rfl, ?_⟩
    intro d w b hn hc hm
    exact removed_any a w b d (Nat.le_trans hc h100) hm
namespace Sf
/-- the names' files crash, one behind the other -/
def crashTo (k : Keep) (d : D) (l : List (List UInt8)) (S : St) : Nat → St
  | 0 => S
  | j + 1 => match look d (bs (l.getD j [])) with
    | some x => (crashTo k d l S j).file x (whole (((crashTo k d l S j).F x).survive k (1 + 2 * j)))
    | none => crashTo k d l S j
/-- the names that are left -/
def St.now (S : St) (k : Keep) : D := Sf.names S.synced (S.chg.take (share k 0 S.chg.length))
def St.crash (S : St) (k : Keep) : St :=
  { names := S.now k, synced := S.now k, chg := [], room := S.room, steps := S.steps, fuse := -1, dead := false, F := (crashTo k (S.now k) (list (S.now k)) S (list (S.now k)).length).F }
theorem now_nice {B N : Nat} {S : St} (h : StOk B N S) (k : Keep) : Nice (S.now k) := hist_take _ _ _ h.his
theorem now_live {B N : Nat} {S : St} (h : StOk B N S) (k : Keep) {s : ByteArray} {x : Nat} (hl : look (S.now k) s = some x) : live S.synced S.chg x := live_take (live_names _ _ (hist_taken _ _ _ h.his) s x hl)
theorem crashTo_ok {B N : Nat} {S : St} (k : Keep) (d : D) (l : List (List UInt8)) (L : Nat → Prop) (hF : ∀ x, L x → FileOk B N (S.F x)) : ∀ j x, L x → FileOk B N ((crashTo k d l S j).F x)
  | 0, x, hx => hF x hx
  | j + 1, x, hx => by
    unfold crashTo
    split
    · rename_i y hy
      show FileOk B N (if x = y then _ else _)
      split
      · rename_i e
        subst e
        exact whole_ok (survive_size (crashTo_ok k d l L hF j x hx) k _)
      · exact crashTo_ok k d l L hF j x hx
    · exact crashTo_ok k d l L hF j x hx
theorem StOk.crash {B N : Nat} {S : St} (h : StOk B N S) (k : Keep) : StOk B N (S.crash k) :=
  ⟨rfl, now_nice h k, (fun x hx => by
    rcases hx with ⟨s, hs⟩ | ⟨c, hc, -⟩
    · exact crashTo_ok k _ _ (live S.synced S.chg) h.file _ x (now_live h k hs)
    · cases hc), Nat.zero_le _, Int.le_refl _, (by show (-1 : Int) ≤ _; decide), h.s1, h.s2, h.r1, h.r2⟩
theorem crashTo_same (k : Keep) (d : D) (l : List (List UInt8)) (S : St) : ∀ j, crashTo k d l S j = { S with F := (crashTo k d l S j).F }
  | 0 => rfl
  | j + 1 => by
    have ih := crashTo_same k d l S j
    unfold crashTo
    split
    · rw [ih]; rfl
    · exact ih
theorem names_take_succ (d : D) {L : List Nm} {i : Nat} (hi : i < L.length) : names d (L.take (i + 1)) = (L.getD i (.rem ByteArray.empty)).app (names d (L.take i)) := by
  rw [← names_snoc, List.take_succ_eq_append_getElem hi]
  simp [List.getD, hi]
end Sf
theorem rcells_enc (l : List (List UInt8)) : l.map encStr = rcells 1 (fun i _ => encStr (l.getD i [])) l.length := by
  apply List.ext_getElem?
  intro i
  by_cases h : i < l.length
  · have h2 := rcells_get 1 (fun i _ => encStr (l.getD i [])) l.length i 0 h (by omega)
    rw [Nat.mul_one, Nat.add_zero] at h2
    rw [h2, List.getElem?_map, List.getElem?_eq_getElem h]
    simp [List.getD, h]
  · rw [List.getElem?_eq_none (by simp; omega), List.getElem?_eq_none (by rw [rcells_length]; omega)]
theorem FsIn.crashed {w w2 : World} {base fb : Nat} {S : Sf.St} {L : Nat → Prop} {mb sb : Nat} {cv : Value} {cvs : Nat → Value} (h : FsIn w base fb S L mb sb cv cvs) (hg : w.grownBy w2 (some fb)) (d : Sf.D) (na nb : Nat) (hna : base ≤ na) (hnb : base ≤ nb) (hne : na ≠ nb) (h1 : NamesAt w na d) (h2 : NamesAt w nb d)
    (hb : w2.heap[fb]? = some (.cells #[.map (some na), .map (some nb), .slice none 0 0, .int .i64 S.room, .int .i64 S.steps, .int .i64 (-1), .bool false] 51 (0, 0))) :
    FsIn w2 base fb { names := d, synced := d, chg := [], room := S.room, steps := S.steps, fuse := -1, dead := false, F := S.F } L na nb (.slice none 0 0) cvs :=
  ⟨h.lo, hna, hnb, hne, hb, h1.kept hg (fun e => by cases e; exact names_ne h1 h.blk rfl), h2.kept hg (fun e => by cases e; exact names_ne h2 h.blk rfl), World.ownsRow_nil _ _ _ _,
    fun x hx => (h.fil x hx).other hg (by
      rintro rfl
      have h1 := (h.fil _ hx).blk
      rw [h.blk] at h1
      injection h1 with h1
      injection h1 with h1 h2
      exact absurd h2 (by decide)) (own_ne (h.fil x hx).row h.blk (by decide)), h.apart⟩
theorem crash_wraps (j p q : Nat) (h : j ≤ 64) (hq : q = 2 * j) (hp : p = 1 + 2 * j) : IntKind.i64.wrap ((j : Int) + 1) = ((j + 1 : Nat) : Int) ∧ wrap64 ((j : Int) + 1) = ((j + 1 : Nat) : Int) ∧ IntKind.i64.wrap (2 * (j : Int)) = ((q : Nat) : Int) ∧ wrap64 (2 * (j : Int)) = ((q : Nat) : Int) ∧
    IntKind.i64.wrap (1 + ((q : Nat) : Int)) = ((p : Nat) : Int) ∧ wrap64 (1 + ((q : Nat) : Int)) = ((p : Nat) : Int) := by
  have e1 : (j : Int) + 1 = ((j + 1 : Nat) : Int) := by rw [Int.natCast_add]; rfl
  have e2 : 2 * (j : Int) = ((q : Nat) : Int) := by rw [hq, Int.natCast_mul]; rfl
  have e3 : 1 + ((q : Nat) : Int) = ((p : Nat) : Int) := by rw [hp, hq, Int.natCast_add]; rfl
  rw [e1, e2, e3]
  exact ⟨IntWalk.i64_in _ (by omega), IntWalk.wrap64_in _ (by omega), IntWalk.i64_in _ (by omega), IntWalk.wrap64_in _ (by omega), IntWalk.i64_in _ (by omega), IntWalk.wrap64_in _ (by omega)⟩
theorem mem_strKeys {w : World} {b : Nat} {d : Sf.D} (h : NamesAt w b d) {x : List UInt8} (hx : x ∈ strKeys d) : Go.Maps.has d (.string x) = true := by
  obtain ⟨es, rfl, hko⟩ := World.ownsMap.keysOf h
  obtain ⟨p, hp, rfl⟩ := List.mem_map.1 hx
  obtain ⟨v, hv⟩ := hko p hp
  obtain ⟨y, -, hy, -⟩ := Go.Maps.keyOf_str Tryz.underlying9 hv
  refine List.any_eq_true.2 ⟨p, hp, ?_⟩
  show p.1.sameKey (.string (strOf p.1)) = true
  rw [hy]
  simp [strOf, Lit.sameKey]
theorem list_look {w : World} {b : Nat} {d : Sf.D} (h : NamesAt w b d) (hn : Sf.Nice d) (j : Nat) (hj : j < (Sf.list d).length) : ∃ x, Sf.look d (bs ((Sf.list d).getD j [])) = some x ∧ (bs ((Sf.list d).getD j [])).size ≤ maxLen := by
  have e : (Sf.list d).getD j [] = (Sf.list d)[j] := by simp [List.getD, hj]
  have hm : (Sf.list d)[j] ∈ strKeys d := (List.mergeSort_perm (strKeys d) leB).mem_iff.1 (List.getElem_mem hj)
  rw [e]
  have hh := mem_strKeys h hm
  obtain ⟨x, hx, -⟩ := Sf.look_has hn.files (s := bs (Sf.list d)[j]) hh
  exact ⟨x, hx, Nat.le_trans (hn.short _ hh) (by unfold maxLen; omega)⟩
theorem crash_step {w W w5 : World} {base fb b4 nm n4 x : Nat} {S T : Sf.St} {L : Nat → Prop} {mb sb : Nat} {cv : Value} {cvs : Nat → Value} {v4 : Value} {xs : List Value} {d : Sf.D} {b : ByteArray} (hfs : FsIn W base fb T L mb sb cv cvs) (hx : L x) (hnm : NamesAt W nm d) (hrw : W.ownsRow b4 9 1 v4 n4 xs) (hbl : Below base w W) (hbW : base ≤ W.heap.size) (hst : Stays w W)
    (hg : W.grownBy w5 (some x)) (hb : w5.heap[x]? = some (.cells #[.string b, .string b, .slice none 0 0] 84 (0, 0))) (hS : S = T.file x (Sf.whole b)) :
    ∃ cvs2, FsIn w5 base fb S L mb sb cv cvs2 ∧ NamesAt w5 nm d ∧ w5.ownsRow b4 9 1 v4 n4 xs ∧ Below base w w5 ∧ Stays w w5 := by
  have hbx := (hfs.fil x hx).blk
  subst hS
  exact ⟨_, hfs.rewhole hx hg b hb, hnm.kept hg (fun e => by cases e; exact names_ne hnm hbx rfl), row_kept hrw hg (fun r e => by cases e; exact own_ne hrw hbx (by decide)),
    hbl.grown hg hbW (fun r e => by cases e; exact (hfs.fil x hx).lo), hst.trans (Stays.grown hg (fun cs T fr e => by rw [hbx] at e; cases e; exact .inr (.inl rfl)))⟩
end Go.Proofs.YtfibapfehgglhaaGreatDoor
/-
  New.
-/
namespace Go.Proofs.YtfibapfehgglhaaGreatDoor
open Go.RowKit Go.Maps
def Sf.St.new (room : Int) : Sf.St := { names := .map [], synced := .map [], chg := [], room := max room 0, steps := 0, fuse := -1, dead := false, F := fun _ => Sf.file0 }
theorem run_makeMap_none {P : Program} {t : TypeId} (w : World) : (Instr.makeMap t none).run P w = .ok (.map (some w.heap.size)) (w.alloc (.map #[] 0)) := by
  simp [Instr.makeMap, Result.andThen]
theorem Sf.look_empty (s : ByteArray) : Sf.look (.map []) s = none := Sf.look_of_not rfl
theorem Sf.nice_empty : Sf.Nice (.map []) :=
  ⟨tidy_empty, (fun k h => by cases h), (fun s t x h => by rw [Sf.look_empty] at h; cases h), (by decide), (fun s h => by cases h)⟩
theorem Sf.new_ok (B N : Nat) (room : Int) (hr : room ≤ 9223372036854775807) : Sf.StOk B N (Sf.St.new room) :=
  ⟨rfl, Sf.nice_empty, (fun x hx => by
    rcases hx with ⟨s, hs⟩ | ⟨c, hc, -⟩
    · rw [show (Sf.St.new room).synced = .map [] from rfl, Sf.look_empty] at hs; cases hs
    · cases hc), Nat.zero_le _, Int.le_refl _, (by show (-1 : Int) ≤ 1073741824; decide), Int.le_refl _, (by show (0 : Int) ≤ (N : Int); omega), (by show 0 ≤ max room 0; omega), (by show max room 0 ≤ _; omega)⟩
set_option maxRecDepth 100000 in
theorem New_any (room : Int) (w : World) :
    Calls Tryz.prog 7 #[.int .i64 room] w fun e w' => ∃ fb, e = .returned (.pointer (some ⟨fb, 0, none⟩)) ∧ FsAt w' w.heap.size fb (Sf.St.new room) ∧ Below w.heap.size w w' := by
  have HFIN : Hid (∀ w' : World, w' = ((w.alloc (.map #[] 0)).alloc (.map #[] 0)).alloc (.cells #[.map (some w.heap.size), .map (some (w.heap.size + 1)), .slice none 0 0, .int .i64 (max room 0), .int .i64 0, .int .i64 (-1), .bool false] 51) → FsAt w' w.heap.size (w.heap.size + 2) (Sf.St.new room) ∧ Below w.heap.size w w') := Lib.hid (fun w' e => by
    subst e
    have b1 : Below w.heap.size w (w.alloc (.map #[] 0)) := (Below.refl _ _).alloc (Nat.le_refl _) _
    have z1 : (w.alloc (.map #[] 0)).heap.size = w.heap.size + 1 := by simp
    generalize hw1 : w.alloc (.map #[] 0) = w1 at *
    have n1 : NamesAt w1 w.heap.size (.map []) := by rw [← hw1]; exact (World.ownsMap_made _ _ _ _).mono (Nat.zero_le _)
    have b2 : Below w1.heap.size w1 (w1.alloc (.map #[] 0)) := (Below.refl _ _).alloc (Nat.le_refl _) _
    have n2 : NamesAt (w1.alloc (.map #[] 0)) (w.heap.size + 1) (.map []) := by rw [← z1]; exact (World.ownsMap_made _ _ _ _).mono (Nat.zero_le _)
    have z2 : (w1.alloc (.map #[] 0)).heap.size = w.heap.size + 2 := by simp [z1]
    generalize w1.alloc (.map #[] 0) = w2 at *
    have b3 := fun o : Obj => (Below.refl w2.heap.size w2).alloc (Nat.le_refl _) o
    have hb := heap_alloc_new w2 (.cells #[.map (some w.heap.size), .map (some (w.heap.size + 1)), .slice none 0 0, .int .i64 (max room 0), .int .i64 0, .int .i64 (-1), .bool false] 51)
    rw [z2] at hb
    refine ⟨⟨w.heap.size, w.heap.size + 1, .slice none 0 0, fun _ => .slice none 0 0, ⟨by omega, Nat.le_refl _, by omega, by omega, hb, (n1.later b2).later (b3 _), n2.later (b3 _), World.ownsRow_nil _ _ _ _, ?_, ?_⟩⟩, below_step b1 (below_step b2 (b3 _))⟩
    · rintro x (⟨s, hs⟩ | ⟨c, hc, -⟩)
      · rw [show (Sf.St.new room).synced = .map [] from rfl, Sf.look_empty] at hs; cases hs
      · cases hc
    · intro x y _ _ _ r hr
      cases hr)
  have hmm := fun U => run_makeMap_none (P := Tryz.prog) (t := 48) U
  go_enter Tryz.func7, Tryz.ntmps7
  go_wp2_with fail
  go_ret
  exact ⟨_, rfl, HFIN.out _ rfl⟩
end Go.Proofs.YtfibapfehgglhaaGreatDoor
/-
  What is done keeps a machine one that may be.
-/
namespace Go.Proofs.YtfibapfehgglhaaGreatDoor
open Go.RowKit Go.Maps
namespace Sf
theorem StOk.put {B N : Nat} {S : St} (h : StOk B N S) {x : Nat} {y : File} (hy : FileOk B N y) : StOk B N (S.file x y) :=
  ⟨h.nam, h.his, (fun k hk => by
    show FileOk B N (if k = x then y else S.F k)
    split
    · exact hy
    · exact h.file k hk), h.few, h.f1, h.f2, h.s1, h.s2, h.r1, h.r2⟩
theorem StOk.fileDo {B N : Nat} {S : St} (h : StOk B N S) {x : Nat} {y : File} (hy : FileOk B (N + 1) y) : StOk B (N + 1) (S.fileDo x y).1 := by
  unfold St.fileDo
  split
  · exact h.kill.mono (Nat.le_refl _) (Nat.le_succ _)
  · exact h.tick.put hy
theorem StOk.cut {B N : Nat} {S : St} (h : StOk B N S) (s : ByteArray) (n : Int) : StOk B (N + 1) (S.cut s n).1 := by
  have h1 := h.mono (Nat.le_refl B) (Nat.le_succ N)
  unfold St.cut
  split
  · exact h1
  · split
    · exact h1
    · rename_i x hx
      split
      · exact h1
      · rename_i hn
        refine h.fileDo ((h.file x (h.lives hx)).change ?_)
        show n.toNat ≤ (S.F x).bytes.size
        omega
theorem StOk.append {B N : Nat} {S : St} (h : StOk B N S) (s b : ByteArray) (hb : b.size ≤ 300) : StOk (B + 300) (N + 1) (S.append s b).1 := by
  have h1 := h.mono (Nat.le_add_right B 300) (Nat.le_succ N)
  unfold St.append
  split
  · exact h1
  · split
    · exact h1
    · rename_i x hx
      split
      · exact h1
      · have hf := h.file x (h.lives hx)
        have hz := FileOk.size hf
        refine (h.mono (Nat.le_add_right B 300) (Nat.le_refl N)).fileDo ((hf.mono (Nat.le_add_right B 300) (Nat.le_refl N)).change ?_)
        show (S.F x).bytes.size + b.size ≤ B + 300
        omega
theorem StOk.sync {B N : Nat} {S : St} (h : StOk B N S) (s : ByteArray) : StOk B (N + 1) (S.sync s).1 := by
  have h1 := h.mono (Nat.le_refl B) (Nat.le_succ N)
  unfold St.sync
  split
  · exact h1
  · split
    · exact h1
    · rename_i x hx
      exact h.fileDo (whole_ok (FileOk.size (h.file x (h.lives hx))))
theorem StOk.dir {B N : Nat} {S : St} (h : StOk B N S) : StOk B N S.dir :=
  ⟨rfl, h.nice, (fun x hx => by
    rcases hx with ⟨s, hs⟩ | ⟨c, hc, -⟩
    · exact h.file x (h.lives hs)
    · cases hc), Nat.zero_le _, h.f1, h.f2, h.s1, h.s2, h.r1, h.r2⟩
theorem StOk.dirDo {B N : Nat} {S : St} (h : StOk B N S) : StOk B (N + 1) S.dirDo.1 := by
  unfold St.dirDo
  split
  · exact h.mono (Nat.le_refl B) (Nat.le_succ N)
  · split
    · exact h.kill.mono (Nat.le_refl _) (Nat.le_succ _)
    · exact h.tick.dir
theorem StOk.nameDo {B N : Nat} {S : St} {c : Nm} (h : StOk B N S) (hc : c.ok S.names) (hn : Nice (c.app S.names)) (hF : ∀ x, c.mk = some x → FileOk B N (S.F x)) : StOk B (N + 1) (S.nameDo c).1 := by
  unfold St.nameDo
  split
  · exact h.kill.mono (Nat.le_refl _) (Nat.le_succ _)
  · exact h.naming hc hn hF
theorem isName_le {s : ByteArray} (h : ¬ isName s = false) : s.size ≤ 100 := by
  unfold isName at h
  simp at h
  omega
theorem StOk.create {B N : Nat} {S : St} (h : StOk B N S) (s : ByteArray) {x : Nat} (hx : ¬ live S.synced S.chg x) : StOk B (N + 1) (S.create s x).1 := by
  have h1 := h.mono (Nat.le_refl B) (Nat.le_succ N)
  unfold St.create
  split
  · exact h1
  · split
    · exact h1
    · rename_i hnm
      split
      · exact h1
      · split
        · exact h1
        · rename_i hz
          have h2 : StOk B N (S.file x file0) := h.newFile hx
          have hs := isName_le hnm
          refine h2.nameDo (c := .cre s x) hs (nice_cre h.nice hs (fun t ht => hx (h.lives ht)) (by omega)) (fun y hy => ?_)
          cases hy
          show FileOk B N (if x = x then file0 else S.F x)
          rw [if_pos rfl]
          exact file0_ok B N
theorem StOk.rename {B N : Nat} {S : St} (h : StOk B N S) (a b : ByteArray) : StOk B (N + 1) (S.rename a b).1 := by
  have h1 := h.mono (Nat.le_refl B) (Nat.le_succ N)
  unfold St.rename
  split
  · exact h1
  · split
    · exact h1
    · rename_i x hx
      split
      · exact h1
      · rename_i hnm
        exact h.nameDo (c := .ren a b) ⟨⟨x, hx⟩, isName_le hnm⟩ (nice_ren h.nice hx (isName_le hnm)) (fun y hy => by cases hy)
theorem StOk.remove {B N : Nat} {S : St} (h : StOk B N S) (a : ByteArray) : StOk B (N + 1) (S.remove a).1 := by
  have h1 := h.mono (Nat.le_refl B) (Nat.le_succ N)
  unfold St.remove
  split
  · exact h1
  · split
    · exact h1
    · rename_i x hx
      exact h.nameDo (c := .rem a) (h.nice.short a (look_some hx)) (nice_rem h.nice a) (fun y hy => by cases hy)
/-- a file of which a name was met is whole -/
theorem crashTo_whole (k : Keep) (d : D) (l : List (List UInt8)) (S : St) {x : Nat} : ∀ j i, i < j → look d (bs (l.getD i [])) = some x → ∃ b, (crashTo k d l S j).F x = whole b
  | 0, _, h, _ => absurd h (Nat.not_lt_zero _)
  | j + 1, i, h, hx => by
    unfold crashTo
    split
    · rename_i y hy
      by_cases e : x = y
      · exact ⟨_, if_pos e⟩
      · have hij : i < j := by
          rcases Nat.lt_succ_iff_lt_or_eq.1 h with h2 | h2
          · exact h2
          · rw [h2, hy] at hx; exact absurd (Option.some.inj hx).symm e
        obtain ⟨b, hb⟩ := crashTo_whole k d l S j i hij hx
        exact ⟨b, (if_neg e).trans hb⟩
    · rename_i hy
      have hij : i < j := by
        rcases Nat.lt_succ_iff_lt_or_eq.1 h with h2 | h2
        · exact h2
        · rw [h2, hy] at hx; cases hx
      exact crashTo_whole k d l S j i hij hx
/-- whole files stay as they are -/
theorem crashTo_still (k : Keep) (d : D) (l : List (List UInt8)) (S : St) (hw : ∀ s x, look d s = some x → ∃ b, S.F x = whole b) : ∀ j x, (crashTo k d l S j).F x = S.F x
  | 0, _ => rfl
  | j + 1, x => by
    unfold crashTo
    split
    · rename_i y hy
      show (if x = y then _ else (crashTo k d l S j).F x) = S.F x
      split
      · rename_i e
        subst e
        obtain ⟨b, hb⟩ := hw _ _ hy
        rw [crashTo_still k d l S hw j x, hb, whole_survive]
      · exact crashTo_still k d l S hw j x
    · exact crashTo_still k d l S hw j x
end Sf
end Go.Proofs.YtfibapfehgglhaaGreatDoor
/-
  Acts in a world; what few of the laws comes to.
-/
namespace Go.Proofs.YtfibapfehgglhaaGreatDoor
open Go.RowKit
theorem below_drewN {B : Nat} {a w : World} (h : Below B a w) (n : Nat) : Below B a (w.drewN n) := h.trans ⟨rfl, rfl, rfl, Nat.le_refl _, fun _ _ => rfl⟩
/-- a row of texts -/
def tx (l : List (List UInt8)) (i _ : Nat) : Value := .string (bs (l.getD i []))
theorem bs_inj {a b : List UInt8} (h : bs a = bs b) : a = b := by
  unfold bs at h
  injection h with h
  simpa using h
end Go.Proofs.YtfibapfehgglhaaGreatDoor
