/-
  A change of names is a step.
-/
import Derived.Test.YtgpmomjdjakklaaSfF
namespace Go.Proofs.Ytgpmomjdjakklaa
open Go.RowKit
/-- what a step comes to: the machine dies, or does it -/
def Stepped (w : World) (base fb : Nat) (S S2 : Sf.St) (L : Nat → Prop) (e : Ending) (w' : World) : Prop :=
  (S.fuse = 0 ∧ e = .returned (.int .i64 13) ∧ FsL w' base fb S.kill L ∧ Below base w w' ∧ Stays w w') ∨ (S.fuse ≠ 0 ∧ e = .returned (.int .i64 0) ∧ FsL w' base fb S2 L ∧ Below base w w' ∧ Stays w w')
theorem fs_stays {w : World} {fb : Nat} {cs : Array Value} {fr : Nat × Nat} (h : w.heap[fb]? = some (.cells cs 50 fr)) {w2 : World} (hg : w.grownBy w2 (some fb)) : Stays w w2 := Stays.grown hg (fun cs T fr e => by rw [h] at e; cases e; exact .inl rfl)
theorem val_iface (c : Sf.Nm) : ∃ T v f, c.val = .iface T v ∧ (∀ U, (nilAhead 240 T v "alluvium/simfs.name").run Try.prog U = .ok (some false) U) ∧ (∀ U, (method 240 T v "alluvium/simfs.name").run Try.prog U = .ok (f, v) U) ∧ (∀ args w, (callFunc f args).run Try.prog w = .ok (.enter f args) w) ∧
    ∀ (w : World) (b : Nat) (d : Sf.D), NamesAt w b d → Sf.Nice d → c.ok d → (∀ a, (c = .rem a ∨ ∃ t, c = .ren a t) → a.size ≤ maxLen) → Calls Try.prog f #[v, .map (some b)] w fun e w' => e = .returned (.tuple #[]) ∧ NamesAt w' b (c.app d) ∧ w.grownBy w' (some b) := by
  cases c with
  | cre s h =>
    refine ⟨_, _, _, rfl, fun U => (nil_name _ _ _ (.inl ⟨rfl, rfl⟩) U).1, fun U => (nil_name _ _ _ (.inl ⟨rfl, rfl⟩) U).2, enters_of Try.func101 (by kernel_rfl) rfl, ?_⟩
    intro w b d hm hn hc _
    exact created_any s h w b d (Nat.le_trans hc (by unfold maxLen; omega)) hm (Nat.le_trans hn.few (by decide))
  | ren a t =>
    refine ⟨_, _, _, rfl, fun U => (nil_name _ _ _ (.inr (.inl ⟨rfl, rfl⟩)) U).1, fun U => (nil_name _ _ _ (.inr (.inl ⟨rfl, rfl⟩)) U).2, enters_of Try.func105 (by kernel_rfl) rfl, ?_⟩
    intro w b d hm hn hc hs
    obtain ⟨⟨x, hx⟩, ht⟩ := hc
    exact renamed_any a t x w b d (hs a (.inr ⟨t, rfl⟩)) (Nat.le_trans ht (by unfold maxLen; omega)) hm hn.files hn.tidy hx (Nat.le_trans hn.few (by decide))
  | rem a =>
    refine ⟨_, _, _, rfl, fun U => (nil_name _ _ _ (.inr (.inr ⟨rfl, rfl⟩)) U).1, fun U => (nil_name _ _ _ (.inr (.inr ⟨rfl, rfl⟩)) U).2, enters_of Try.func104 (by kernel_rfl) rfl, ?_⟩
    intro w b d hm _ _ hs
    exact removed_any a w b d (hs a (.inl rfl)) hm
theorem run_make_func (fn : Fn) (first cap : Array Value) (w : World) : (Instr.makeFunc fn first cap).run Try.prog w = .ok (.func fn first cap) w := rfl
set_option maxRecDepth 100000 in
set_option maxHeartbeats 1000000 in
theorem nameStep_any {w : World} {base fb B N : Nat} {S : Sf.St} {L : Nat → Prop} (h : FsL w base fb S L) (hbase : base ≤ w.heap.size) (hok : Sf.StOk B N S) (hN : N ≤ 1000) (c : Sf.Nm) (hc : c.ok S.names) (hs : ∀ a, (c = .rem a ∨ ∃ t, c = .ren a t) → a.size ≤ maxLen) :
    Calls Try.prog 42 #[.pointer (some ⟨fb, 0, none⟩), c.val] w (Stepped w base fb S (S.tick.naming c) L) := by
  obtain ⟨mb, sb, cv, cvs, h⟩ := h
  obtain ⟨T, v, f, hv, hna, hme, hfn, hcall⟩ := val_iface c
  obtain ⟨w1, hw1⟩ : ∃ w1, w1 = (w.alloc (.cells #[.pointer (some ⟨fb, 0, none⟩)] 25)).alloc (.cells #[c.val] 58) := ⟨_, rfl⟩
  obtain ⟨pb, hpb⟩ : ∃ pb, pb = w.heap.size := ⟨_, rfl⟩
  have hb1 : Below w.heap.size w w1 := by rw [hw1]; exact ((Below.refl _ _).alloc (Nat.le_refl _) _).alloc (by simp) _
  have hp1 : w1.heap[pb]? = some (.cells #[.pointer (some ⟨fb, 0, none⟩)] 25 (0, 0)) := by rw [hw1, hpb]; exact heap_alloc2_old w _ _
  have hc1 : w1.heap[pb + 1]? = some (.cells #[c.val] 58 (0, 0)) := by rw [hw1, hpb]; exact heap_alloc2_new w _ _
  have hne : cv.ownBlock ≠ some (pb + 1) := by
    intro e
    have := (h.row.lt _ e).2
    omega
  have hf1 := h.far hb1
  have hNice := hok.nice
  have HST := Lib.hid (step_any hf1 hok (Nat.le_trans hN (by decide)) 56 #[.pointer (some ⟨pb + 1, 0, none⟩), .pointer (some ⟨pb, 0, none⟩)] (enters_of Try.func56 (by kernel_rfl) rfl)
    (fun w' => FsL w' base fb (S.tick.naming c) L ∧ Below base w w' ∧ Stays w w') (fun _ U hg hU => by
      have hp2 := grown_keep hp1 hg (by
        rintro rfl
        have := hf1.blk
        rw [hp1] at this
        injection this with this
        injection this with _ this
        exact absurd this (by decide))
      have hc2 := grown_keep hc1 hg (by
        rintro e
        have := hf1.blk
        rw [← e, hc1] at this
        injection this with this
        injection this with _ this
        exact absurd this (by decide))
      have hBU : Below base w U := (hb1.mono hbase).grown hg (Nat.le_trans hbase hb1.size) (fun r e => by cases e; exact h.lo)
      refine (naming_any (S := S.tick) (Nat.le_trans hbase hBU.size) (Nat.le_trans hok.few hN) ⟨hU, hc2, hp2, hne⟩ T v f hv hna hme hfn (fun V hV => hcall V mb S.names hV hNice hc hs)).mono ?_
      rintro e w' ⟨he, h1, h2, h3⟩
      exact ⟨he, h1, hBU.trans h2, (Stays.below hb1).trans ((fs_stays hf1.blk hg).trans h3)⟩))
  have HB1 := Lib.hid (And.intro hb1 hbase)
  have HF1 := Lib.hid hf1
  clear hf1 hb1 hp1 hc1 hne h hok hcall hna hme hfn hNice hc hs
  have hmf := run_make_func
  rw [hv] at hw1
  go_enter Try.func42, Try.ntmps42
  go_wp2_with fail
  rw [← hw1, ← hpb]
  clear hw1 hpb hmf
  refine HST.out.mono ?_; rintro e w2 (⟨hf0, rfl, hk, hg⟩ | ⟨hf0, rfl, hr⟩)
  · have HR : Hid (Stepped w base fb S (S.tick.naming c) L (.returned (.int .i64 13)) w2) := Lib.hid (.inl ⟨hf0, rfl, ⟨mb, sb, cv, cvs, hk⟩, (HB1.out.1.mono HB1.out.2).grown hg (Nat.le_trans HB1.out.2 HB1.out.1.size) (fun r e => by cases e; exact HF1.out.lo), (Stays.below HB1.out.1).trans (fs_stays HF1.out.blk hg)⟩)
    clear hf0 hk hg
    go_wp2_with fail
    go_ret
    exact HR.out
  · have HR : Hid (Stepped w base fb S (S.tick.naming c) L (.returned (.int .i64 0)) w2) := Lib.hid (.inr ⟨hf0, rfl, hr⟩)
    clear hf0 hr
    go_wp2_with fail
    go_ret
    exact HR.out
end Go.Proofs.Ytgpmomjdjakklaa
