/-
  Create, Rename, Remove: the walks.
-/
import Derived.Test.YtgpmomjdjakklaaSfH
namespace Go.Proofs.Ytgpmomjdjakklaa
open Go.RowKit
theorem nm_sizes {c : Sf.Nm} {s : ByteArray} (h : c = .rem s ∨ ∃ t, c = .ren s t) (hs : s.size ≤ maxLen) : ∀ a, (c = .rem a ∨ ∃ t, c = .ren a t) → a.size ≤ maxLen := by
  intro a ha
  rcases h with rfl | ⟨t, rfl⟩
  · rcases ha with e | ⟨t, e⟩
    · cases e; exact hs
    · cases e
  · rcases ha with e | ⟨u, e⟩
    · cases e
    · cases e; exact hs
set_option maxRecDepth 100000 in
set_option maxHeartbeats 1000000 in
theorem Remove_any {w : World} {base fb B N : Nat} {S : Sf.St} (h : FsAt w base fb S) (hbase : base ≤ w.heap.size) (hok : Sf.StOk B N S) (hN : N ≤ 1000) (s : ByteArray) (hs : s.size ≤ maxLen) :
    Calls Try.prog 25 #[.pointer (some ⟨fb, 0, none⟩), .string s] w fun e w' => e = .returned (.int .i64 (S.remove s).2) ∧ Left w base fb (S.remove s).1 w' := by
  have HFI := Lib.hid (find_any h hok.nice s hs)
  have HL := Lib.hid (Left.refl h)
  rcases Sf.find_cases S s with ⟨x, e, hd, hl⟩ | ⟨e, hd, hl⟩ | ⟨e, hd⟩
  · have er : S.remove s = S.nameDo (.rem s) := by unfold Sf.St.remove; rw [hd, hl]; rfl
    rw [er]
    simp only [e, ptrV, Option.map_some] at HFI
    have HNS := Lib.hid (nameStep_any (L := Sf.live S.synced (S.chg ++ [.rem s])) (FsL.weaken h (fun y hy => by
      rcases hy with h5 | ⟨c2, h5, h6⟩
      · exact .inl h5
      · rcases List.mem_append.1 h5 with h7 | h7
        · exact .inr ⟨c2, h7, h6⟩
        · rw [List.mem_singleton.1 h7] at h6; cases h6)) hbase hok hN (.rem s) (hok.nice.short s (Sf.look_some hl)) (nm_sizes (.inl rfl) hs))
    clear h hok e er hd hl
    go_enter Try.func25, Try.ntmps25
    go_wp2_with fail
    refine HFI.out.mono ?_; rintro e w1 ⟨rfl, rfl⟩
    go_wp2_with fail
    refine HNS.out.mono ?_; rintro e w2 hst
    obtain ⟨he, hleft⟩ := hst.left (fun x hx => hx)
    subst he
    have HLE := Lib.hid hleft
    clear hst hleft
    go_wp2_with fail
    go_ret
    exact ⟨rfl, HLE.out⟩
  · have er : S.remove s = (S, 11) := by unfold Sf.St.remove; rw [hd, hl]; rfl
    rw [er]
    simp only [e, ptrV, Option.map_none] at HFI
    clear h hok e er hd hl
    go_enter Try.func25, Try.ntmps25
    go_wp2_with fail
    refine HFI.out.mono ?_; rintro e w1 ⟨rfl, rfl⟩
    go_wp2_with fail
    go_ret
    exact ⟨rfl, HL.out⟩
  · have er : S.remove s = (S, 13) := by unfold Sf.St.remove; rw [hd]; rfl
    rw [er]
    simp only [e, ptrV, Option.map_none] at HFI
    clear h hok e er hd
    go_enter Try.func25, Try.ntmps25
    go_wp2_with fail
    refine HFI.out.mono ?_; rintro e w1 ⟨rfl, rfl⟩
    go_wp2_with fail
    go_ret
    exact ⟨rfl, HL.out⟩
set_option maxRecDepth 100000 in
set_option maxHeartbeats 1000000 in
theorem Rename_any {w : World} {base fb B N : Nat} {S : Sf.St} (h : FsAt w base fb S) (hbase : base ≤ w.heap.size) (hok : Sf.StOk B N S) (hN : N ≤ 1000) (s t : ByteArray) (hs : s.size ≤ maxLen) (ht : t.size ≤ maxLen) :
    Calls Try.prog 34 #[.pointer (some ⟨fb, 0, none⟩), .string s, .string t] w fun e w' => e = .returned (.int .i64 (S.rename s t).2) ∧ Left w base fb (S.rename s t).1 w' := by
  have HFI := Lib.hid (find_any h hok.nice s hs)
  have HIN := Lib.hid (fun U => isName_any t ht U)
  have HL := Lib.hid (Left.refl h)
  rcases Sf.find_cases S s with ⟨x, e, hd, hl⟩ | ⟨e, hd, hl⟩ | ⟨e, hd⟩
  · simp only [e, ptrV, Option.map_some] at HFI
    cases hn : Sf.isName t
    · have er : S.rename s t = (S, 1) := by unfold Sf.St.rename; rw [hd, hl, hn]; rfl
      rw [er]
      unfold Sf.isName at hn
      rw [hn] at HIN
      clear h hok e er hd hl hn
      go_enter Try.func34, Try.ntmps34
      go_wp2_with fail
      refine HFI.out.mono ?_; rintro e w1 ⟨rfl, rfl⟩
      go_wp2_with fail
      refine (HIN.out _).mono ?_; rintro e w2 ⟨rfl, rfl⟩
      go_wp2_with fail
      go_ret
      exact ⟨rfl, HL.out⟩
    · have er : S.rename s t = S.nameDo (.ren s t) := by unfold Sf.St.rename; rw [hd, hl, hn]; rfl
      rw [er]
      unfold Sf.isName at hn
      have ht40 := of_decide_eq_true hn
      rw [hn] at HIN
      have HNS := Lib.hid (nameStep_any (L := Sf.live S.synced (S.chg ++ [.ren s t])) (FsL.weaken h (fun y hy => by
        rcases hy with h5 | ⟨c2, h5, h6⟩
        · exact .inl h5
        · rcases List.mem_append.1 h5 with h7 | h7
          · exact .inr ⟨c2, h7, h6⟩
          · rw [List.mem_singleton.1 h7] at h6; cases h6)) hbase hok hN (.ren s t) ⟨⟨x, hl⟩, by omega⟩ (nm_sizes (.inr ⟨t, rfl⟩) hs))
      clear h hok e er hd hl hn ht40
      go_enter Try.func34, Try.ntmps34
      go_wp2_with fail
      refine HFI.out.mono ?_; rintro e w1 ⟨rfl, rfl⟩
      go_wp2_with fail
      refine (HIN.out _).mono ?_; rintro e w2 ⟨rfl, rfl⟩
      go_wp2_with fail
      refine HNS.out.mono ?_; rintro e w3 hst
      obtain ⟨he, hleft⟩ := hst.left (fun x hx => hx)
      subst he
      have HLE := Lib.hid hleft
      clear hst hleft
      go_wp2_with fail
      go_ret
      exact ⟨rfl, HLE.out⟩
  · have er : S.rename s t = (S, 11) := by unfold Sf.St.rename; rw [hd, hl]; rfl
    rw [er]
    simp only [e, ptrV, Option.map_none] at HFI
    clear h hok e er hd hl
    go_enter Try.func34, Try.ntmps34
    go_wp2_with fail
    refine HFI.out.mono ?_; rintro e w1 ⟨rfl, rfl⟩
    go_wp2_with fail
    go_ret
    exact ⟨rfl, HL.out⟩
  · have er : S.rename s t = (S, 13) := by unfold Sf.St.rename; rw [hd]; rfl
    rw [er]
    simp only [e, ptrV, Option.map_none] at HFI
    clear h hok e er hd
    go_enter Try.func34, Try.ntmps34
    go_wp2_with fail
    refine HFI.out.mono ?_; rintro e w1 ⟨rfl, rfl⟩
    go_wp2_with fail
    go_ret
    exact ⟨rfl, HL.out⟩
set_option maxRecDepth 100000 in
set_option maxHeartbeats 2000000 in
theorem Create_any {w : World} {base fb B N : Nat} {S : Sf.St} (h : FsAt w base fb S) (hbase : base ≤ w.heap.size) (hok : Sf.StOk B N S) (hN : N ≤ 1000) (s : ByteArray) (hs : s.size ≤ maxLen) :
    Calls Try.prog 19 #[.pointer (some ⟨fb, 0, none⟩), .string s] w fun e w' => ¬ Sf.live S.synced S.chg w.heap.size ∧ e = .returned (.int .i64 (S.create s w.heap.size).2) ∧ Left w base fb (S.create s w.heap.size).1 w' := by
  have HFI := Lib.hid (find_any h hok.nice s hs)
  have HIN := Lib.hid (fun U => isName_any s hs U)
  have HL := Lib.hid (Left.refl h)
  obtain ⟨w1, hw1⟩ : ∃ w1, w1 = w.alloc (.cells #[.string ⟨#[]⟩, .string ⟨#[]⟩, .slice none 0 0] 66) := ⟨_, rfl⟩
  obtain ⟨xb, hxb⟩ : ∃ xb, xb = w.heap.size := ⟨_, rfl⟩
  obtain ⟨hnl, hnew⟩ := FsL.newFile h hbase
  rw [← hw1, ← hxb] at hnew
  rw [← hxb] at hnl ⊢
  have HNL := Lib.hid hnl
  have hb1 : Below base w w1 := by rw [hw1]; exact (Below.refl _ _).alloc hbase _
  have HW1 := Lib.hid (And.intro hb1 (show Stays w w1 from Stays.below (by rw [hw1]; exact (Below.refl _ _).alloc (Nat.le_refl _) _)))
  rcases Sf.find_cases S s with ⟨x, e, hd, hl⟩ | ⟨e, hd, hl⟩ | ⟨e, hd⟩
  · simp only [e, ptrV, Option.map_some] at HFI
    cases hn : Sf.isName s
    · have er : S.create s xb = (S, 1) := by unfold Sf.St.create; rw [hd, hn]; rfl
      rw [er]
      unfold Sf.isName at hn
      rw [hn] at HIN
      clear h hok e er hd hl hn hnl hnew hb1
      go_enter Try.func19, Try.ntmps19
      go_wp2_with fail
      refine HFI.out.mono ?_; rintro e w1 ⟨rfl, rfl⟩
      go_wp2_with fail
      refine (HIN.out _).mono ?_; rintro e w2 ⟨rfl, rfl⟩
      go_wp2_with fail
      go_ret
      exact ⟨HNL.out, rfl, HL.out⟩
    · have er : S.create s xb = (S, 12) := by unfold Sf.St.create; rw [hd, hn, hl]; rfl
      rw [er]
      unfold Sf.isName at hn
      rw [hn] at HIN
      clear h hok e er hd hl hn hnl hnew hb1
      go_enter Try.func19, Try.ntmps19
      go_wp2_with fail
      refine HFI.out.mono ?_; rintro e w1 ⟨rfl, rfl⟩
      go_wp2_with fail
      refine (HIN.out _).mono ?_; rintro e w2 ⟨rfl, rfl⟩
      go_wp2_with fail
      go_ret
      exact ⟨HNL.out, rfl, HL.out⟩
  · simp only [e, ptrV, Option.map_none] at HFI
    cases hn : Sf.isName s
    · have er : S.create s xb = (S, 1) := by unfold Sf.St.create; rw [hd, hn]; rfl
      rw [er]
      unfold Sf.isName at hn
      rw [hn] at HIN
      clear h hok e er hd hl hn hnl hnew hb1
      go_enter Try.func19, Try.ntmps19
      go_wp2_with fail
      refine HFI.out.mono ?_; rintro e w1 ⟨rfl, rfl⟩
      go_wp2_with fail
      refine (HIN.out _).mono ?_; rintro e w2 ⟨rfl, rfl⟩
      go_wp2_with fail
      go_ret
      exact ⟨HNL.out, rfl, HL.out⟩
    · obtain ⟨mb, sb, cv, cvs, hfs⟩ := h
      have c0 : w.cell? ⟨fb, 0, none⟩ = some (.map (some mb)) := cell_of_row _ _ _ _ _ _ hfs.blk
      have hlen := fun ty => hfs.nam.len Try.underlying47 ty
      have hfew := hok.nice.few
      by_cases h64 : 64 ≤ Go.Maps.size S.names
      · have er : S.create s xb = (S, 7) := by unfold Sf.St.create; rw [hd, hn, hl, if_pos h64]; rfl
        rw [er]
        unfold Sf.isName at hn
        rw [hn] at HIN
        have d1 : decide ((64 : Int) ≤ ((Go.Maps.size S.names : Nat) : Int)) = true := decide_eq_true (by omega)
        have d2 : decide (64 ≤ Go.Maps.size S.names) = true := decide_eq_true h64
        clear hfs hok e er hd hl hn hnl hnew hb1 h64 hfew
        generalize Go.Maps.size S.names = sz at *
        go_enter Try.func19, Try.ntmps19
        go_wp2_with fail
        refine HFI.out.mono ?_; rintro e w1 ⟨rfl, rfl⟩
        go_wp2_with fail
        refine (HIN.out _).mono ?_; rintro e w2 ⟨rfl, rfl⟩
        go_wp2_with fail
        go_ret
        exact ⟨HNL.out, rfl, HL.out⟩
      · have er : S.create s xb = (S.file xb Sf.file0).nameDo (.cre s xb) := by unfold Sf.St.create; rw [hd, hn, hl, if_neg h64]; rfl
        rw [er]
        unfold Sf.isName at hn
        have ht40 := of_decide_eq_true hn
        rw [hn] at HIN
        have d1 : decide ((64 : Int) ≤ ((Go.Maps.size S.names : Nat) : Int)) = false := decide_eq_false (by omega)
        have d2 : decide (64 ≤ Go.Maps.size S.names) = false := decide_eq_false h64
        have HNS := Lib.hid (nameStep_any (S := S.file xb Sf.file0) (L := Sf.live S.synced (S.chg ++ [.cre s xb])) (FsL.weaken hnew (fun y hy => by
          rcases hy with h5 | ⟨c2, h5, h6⟩
          · exact .inl (.inl h5)
          · rcases List.mem_append.1 h5 with h7 | h7
            · exact .inl (.inr ⟨c2, h7, h6⟩)
            · rw [List.mem_singleton.1 h7] at h6
              cases h6
              exact .inr rfl)) (Nat.le_trans hbase hb1.size) (hok.newFile hnl) hN (.cre s xb) (show s.size ≤ 100 by omega) (fun a ha => by
                rcases ha with e | ⟨t, e⟩ <;> cases e))
        clear hfs hok e er hd hl hn hnl hnew hb1 h64 hfew ht40
        generalize Go.Maps.size S.names = sz at *
        go_enter Try.func19, Try.ntmps19
        go_wp2_with fail
        refine HFI.out.mono ?_; rintro e w2 ⟨rfl, rfl⟩
        go_wp2_with fail
        refine (HIN.out _).mono ?_; rintro e w3 ⟨rfl, rfl⟩
        go_wp2_with fail
        rw [← hw1, ← hxb]
        clear hw1 hxb
        refine HNS.out.mono ?_; rintro e w4 hst
        obtain ⟨he, hleft⟩ := hst.left (fun x hx => hx)
        subst he
        have HLE := Lib.hid (Left.mk hleft.fs (HW1.out.1.trans hleft.bel) (HW1.out.2.trans hleft.st))
        clear hst hleft
        go_wp2_with fail
        go_ret
        exact ⟨HNL.out, rfl, HLE.out⟩
  · have er : S.create s xb = (S, 13) := by unfold Sf.St.create; rw [hd]; rfl
    rw [er]
    simp only [e, ptrV, Option.map_none] at HFI
    clear h hok e er hd hnl hnew hb1
    go_enter Try.func19, Try.ntmps19
    go_wp2_with fail
    refine HFI.out.mono ?_; rintro e w1 ⟨rfl, rfl⟩
    go_wp2_with fail
    go_ret
    exact ⟨HNL.out, rfl, HL.out⟩
end Go.Proofs.Ytgpmomjdjakklaa
