import Derived.Test.YtfibapfehgglhaaGreatDoorSfG
import Derived.Maps.AppendAt
/-
  Create, Rename, Remove.
-/
namespace Go.Proofs.YtfibapfehgglhaaGreatDoor
open Go.RowKit
namespace Sf
def file0 : File := ⟨⟨#[]⟩, ⟨#[]⟩, []⟩
theorem file0_ok (B N : Nat) : FileOk B N file0 := ⟨rfl, trivial, Nat.zero_le _, Nat.zero_le _⟩
theorem StOk.naming {B N : Nat} {S : St} {c : Nm} (h : StOk B N S) (hc : c.ok S.names) (hn : Nice (c.app S.names)) (hF : ∀ x, c.mk = some x → FileOk B N (S.F x)) : StOk B (N + 1) (S.tick.naming c) := by
  have ht := h.tick
  refine ⟨?_, ?_, ?_, ?_, ht.f1, ht.f2, ht.s1, ht.s2, ht.r1, ht.r2⟩
  · show c.app S.names = Sf.names S.synced (S.chg ++ [c])
    rw [names_snoc, ← h.nam]
  · show hist S.synced (S.chg ++ [c])
    exact hist_snoc _ _ h.his (by rw [← h.nam]; exact hc) (by rw [← h.nam]; exact hn)
  · intro x hx
    show FileOk B (N + 1) (S.F x)
    rcases hx with h1 | ⟨c2, h2, e⟩
    · exact (h.file x (.inl h1)).mono (Nat.le_refl _) (Nat.le_succ _)
    · have h2 : c2 ∈ S.chg ++ [c] := h2
      rcases List.mem_append.1 h2 with h3 | h3
      · exact (h.file x (.inr ⟨c2, h3, e⟩)).mono (Nat.le_refl _) (Nat.le_succ _)
      · rw [List.mem_singleton.1 h3] at e
        exact (hF x e).mono (Nat.le_refl _) (Nat.le_succ _)
  · show (S.chg ++ [c]).length ≤ N + 1
    have := h.few
    rw [List.length_append, List.length_singleton]
    omega
theorem StOk.kill {B N : Nat} {S : St} (h : StOk B N S) : StOk B N S.kill := ⟨h.nam, h.his, h.file, h.few, h.f1, h.f2, h.s1, h.s2, h.r1, h.r2⟩
theorem StOk.newFile {B N : Nat} {S : St} (h : StOk B N S) {x : Nat} {y : File} (hx : ¬ live S.synced S.chg x) : StOk B N (S.file x y) :=
  ⟨h.nam, h.his, fun k hk => by
    show FileOk B N (if k = x then y else S.F k)
    rw [if_neg (fun e => hx (by rw [← e]; exact hk))]
    exact h.file k hk, h.few, h.f1, h.f2, h.s1, h.s2, h.r1, h.r2⟩
def isName (s : ByteArray) : Bool := decide (0 < s.size ∧ s.size ≤ 40)
/-- a change of names: a step -/
def St.nameDo (S : St) (c : Nm) : St × Int := if S.fuse = 0 then (S.kill, 13) else (S.tick.naming c, 0)
def St.create (S : St) (s : ByteArray) (h : Nat) : St × Int :=
  if S.dead then (S, 13) else if isName s = false then (S, 1) else if (look S.names s).isSome then (S, 12) else if 64 ≤ Go.Maps.size S.names then (S, 7) else (S.file h file0).nameDo (.cre s h)
def St.rename (S : St) (a b : ByteArray) : St × Int :=
  if S.dead then (S, 13) else match look S.names a with
  | none => (S, 11)
  | some _ => if isName b = false then (S, 1) else S.nameDo (.ren a b)
def St.remove (S : St) (a : ByteArray) : St × Int :=
  if S.dead then (S, 13) else match look S.names a with
  | none => (S, 11)
  | some _ => S.nameDo (.rem a)
end Sf
theorem FsIn.weaken {w : World} {base fb : Nat} {S : Sf.St} {L L2 : Nat → Prop} {mb sb : Nat} {cv : Value} {cvs : Nat → Value} (h : FsIn w base fb S L mb sb cv cvs) (hl : ∀ x, L2 x → L x) : FsIn w base fb S L2 mb sb cv cvs :=
  ⟨h.lo, h.lom, h.los, h.ne, h.blk, h.nam, h.syn, h.row, fun x hx => h.fil x (hl x hx), fun x y hx hy => h.apart x y (hl x hx) (hl y hy)⟩
theorem FsL.weaken {w : World} {base fb : Nat} {S : Sf.St} {L L2 : Nat → Prop} (h : FsL w base fb S L) (hl : ∀ x, L2 x → L x) : FsL w base fb S L2 := by
  obtain ⟨mb, sb, cv, cvs, h⟩ := h
  exact ⟨mb, sb, cv, cvs, h.weaken hl⟩
theorem FsL.far {w w2 : World} {base fb : Nat} {S : Sf.St} {L : Nat → Prop} (h : FsL w base fb S L) (hb : Below w.heap.size w w2) : FsL w2 base fb S L := by
  obtain ⟨mb, sb, cv, cvs, h⟩ := h
  exact ⟨mb, sb, cv, cvs, h.far hb⟩
/-- a new file -/
theorem FsL.newFile {w : World} {base fb : Nat} {S : Sf.St} {L : Nat → Prop} (h : FsL w base fb S L) (hbase : base ≤ w.heap.size) :
    ¬ L w.heap.size ∧ FsL (w.alloc (.cells #[.string ⟨#[]⟩, .string ⟨#[]⟩, .slice none 0 0] 84)) base fb (S.file w.heap.size Sf.file0) (fun x => L x ∨ x = w.heap.size) := by
  obtain ⟨mb, sb, cv, cvs, h⟩ := h
  have hn : ∀ x, L x → x ≠ w.heap.size := fun x hx e => by
    have := (Array.getElem?_eq_some_iff.1 (h.fil x hx).blk).1
    omega
  refine ⟨fun hL => hn _ hL rfl, mb, sb, cv, fun x => if x = w.heap.size then .slice none 0 0 else cvs x, ?_⟩
  have hf := h.far ((Below.refl w.heap.size w).alloc (Nat.le_refl _) (.cells #[.string ⟨#[]⟩, .string ⟨#[]⟩, .slice none 0 0] 84))
  refine ⟨hf.lo, hf.lom, hf.los, hf.ne, hf.blk, hf.nam, hf.syn, hf.row, ?_, ?_⟩
  · rintro x (hx | rfl)
    · have e1 : (S.file w.heap.size Sf.file0).F x = S.F x := if_neg (hn x hx)
      rw [e1]
      show FileAt _ _ _ _ (if x = w.heap.size then .slice none 0 0 else cvs x)
      rw [if_neg (hn x hx)]
      exact hf.fil x hx
    · have e1 : (S.file w.heap.size Sf.file0).F w.heap.size = Sf.file0 := if_pos rfl
      rw [e1]
      show FileAt _ _ _ _ (if w.heap.size = w.heap.size then .slice none 0 0 else cvs w.heap.size)
      rw [if_pos rfl]
      exact ⟨hbase, heap_alloc_new w _, World.ownsRow_nil _ _ _ _⟩
  · intro x y hx hy hxy r hr
    have hr2 : (if x = w.heap.size then Value.slice none 0 0 else cvs x).ownBlock = some r := hr
    show (if y = w.heap.size then Value.slice none 0 0 else cvs y).ownBlock ≠ some r
    split
    · intro e; cases e
    · rename_i hy2
      split at hr2
      · cases hr2
      · rename_i hx2
        rcases hx with hx | hx
        · rcases hy with hy | hy
          · exact hf.apart x y hx hy hxy r hr2
          · exact absurd hy hy2
        · exact absurd hx hx2
/-- what an operation leaves -/
structure Left (w : World) (base fb : Nat) (S2 : Sf.St) (w' : World) : Prop where
  fs : FsAt w' base fb S2
  bel : Below base w w'
  st : Stays w w'
theorem Left.refl {w : World} {base fb : Nat} {S : Sf.St} (h : FsAt w base fb S) : Left w base fb S w := ⟨h, Below.refl _ _, Stays.refl _⟩
/-- a step of names that leaves a machine -/
theorem Stepped.left {w : World} {base fb : Nat} {S : Sf.St} {c : Sf.Nm} {e : Ending} {w' : World} {L : Nat → Prop} (h : Stepped w base fb S (S.tick.naming c) L e w') (hl : ∀ x, Sf.live S.synced (S.chg ++ [c]) x → L x) :
    e = .returned (.int .i64 (S.nameDo c).2) ∧ Left w base fb (S.nameDo c).1 w' := by
  unfold Sf.St.nameDo
  rcases h with ⟨h0, h1, h2, h3, h4⟩ | ⟨h0, h1, h2, h3, h4⟩
  · rw [if_pos h0]
    refine ⟨h1, h2.weaken (fun x hx => hl x ?_), h3, h4⟩
    rcases hx with h5 | ⟨c2, h5, h6⟩
    · exact .inl h5
    · exact .inr ⟨c2, List.mem_append_left _ h5, h6⟩
  · rw [if_neg h0]
    exact ⟨h1, h2.weaken hl, h3, h4⟩
end Go.Proofs.YtfibapfehgglhaaGreatDoor
/-
  Create, Rename, Remove: the walks.
-/
namespace Go.Proofs.YtfibapfehgglhaaGreatDoor
open Go.RowKit
theorem nm_sizes {c : Sf.Nm} {s : ByteArray} (h : c = .rem s ∨ ∃ t, c = .ren s t) (hs : s.size ≤ maxLen) : ∀ a, (c = .rem a ∨ ∃ t, c = .ren a t) → a.size ≤ maxLen := by
  intro a ha
  rcases h with rfl | ⟨t, rfl⟩
  · rcases ha with e | ⟨t, e⟩
    · cases e; exact hs
    · cases e
  · rcases ha with e | ⟨u, e⟩
    · cases e
    · cases e; exact hs
set_option maxRecDepth 100000 in
set_option maxHeartbeats 1000000 in
theorem Remove_any {w : World} {base fb B N : Nat} {S : Sf.St} (h : FsAt w base fb S) (hbase : base ≤ w.heap.size) (hok : Sf.StOk B N S) (hN : N ≤ 1000) (s : ByteArray) (hs : s.size ≤ maxLen) :
    Calls Tryz.prog 79 #[.pointer (some ⟨fb, 0, none⟩), .string s] w fun e w' => e = .returned (.int .i64 (S.remove s).2) ∧ Left w base fb (S.remove s).1 w' := by
  have HFI := Lib.hid (find_any h hok.nice s hs)
  have HL := Lib.hid (Left.refl h)
  rcases Sf.find_cases S s with ⟨x, e, hd, hl⟩ | ⟨e, hd, hl⟩ | ⟨e, hd⟩
  · have er : S.remove s = S.nameDo (.rem s) := by unfold Sf.St.remove; rw [hd, hl]; rfl
    rw [er]
    simp only [e, ptrV, Option.map_some] at HFI
    have HNS := Lib.hid (nameStep_any (L := Sf.live S.synced (S.chg ++ [.rem s])) (FsL.weaken h (fun y hy => by
      rcases hy with h5 | ⟨c2, h5, h6⟩
      · exact .inl h5
      · rcases List.mem_append.1 h5 with h7 | h7
        · exact .inr ⟨c2, h7, h6⟩
        · rw [List.mem_singleton.1 h7] at h6; cases h6)) hbase hok hN (.rem s) (hok.nice.short s (Sf.look_some hl)) (nm_sizes (.inl rfl) hs))
    clear h hok e er hd hl
    go_enter Tryz.func79, Tryz.ntmps79
    go_wp2_with fail
    refine HFI.out.mono ?_; rintro e w1 ⟨rfl, rfl⟩
    go_wp2_with fail
    refine HNS.out.mono ?_; rintro e w2 hst
    obtain ⟨he, hleft⟩ := hst.left (fun x hx => hx)
    subst he
    have HLE := Lib.hid hleft
    clear hst hleft
    go_wp2_with fail
    go_ret
    exact ⟨rfl, HLE.out⟩
  · have er : S.remove s = (S, 11) := by unfold Sf.St.remove; rw [hd, hl]; rfl
    rw [er]
    simp only [e, ptrV, Option.map_none] at HFI
    clear h hok e er hd hl
    go_enter Tryz.func79, Tryz.ntmps79
    go_wp2_with fail
    refine HFI.out.mono ?_; rintro e w1 ⟨rfl, rfl⟩
    go_wp2_with fail
    go_ret
    exact ⟨rfl, HL.out⟩
  · have er : S.remove s = (S, 13) := by unfold Sf.St.remove; rw [hd]; rfl
    rw [er]
    simp only [e, ptrV, Option.map_none] at HFI
    clear h hok e er hd
    go_enter Tryz.func79, Tryz.ntmps79
    go_wp2_with fail
    refine HFI.out.mono ?_; rintro e w1 ⟨rfl, rfl⟩
    go_wp2_with fail
    go_ret
    exact ⟨rfl, HL.out⟩
set_option maxRecDepth 100000 in
set_option maxHeartbeats 1000000 in
theorem Rename_any {w : World} {base fb B N : Nat} {S : Sf.St} (h : FsAt w base fb S) (hbase : base ≤ w.heap.size) (hok : Sf.StOk B N S) (hN : N ≤ 1000) (s t : ByteArray) (hs : s.size ≤ maxLen) (ht : t.size ≤ maxLen) :
    Calls Tryz.prog 88 #[.pointer (some ⟨fb, 0, none⟩), .string s, .string t] w fun e w' => e = .returned (.int .i64 (S.rename s t).2) ∧ Left w base fb (S.rename s t).1 w' := by
  have HFI := Lib.hid (find_any h hok.nice s hs)
  have HIN := Lib.hid (fun U => isName_any t ht U)
  have HL := Lib.hid (Left.refl h)
  rcases Sf.find_cases S s with ⟨x, e, hd, hl⟩ | ⟨e, hd, hl⟩ | ⟨e, hd⟩
  · simp only [e, ptrV, Option.map_some] at HFI
    cases hn : Sf.isName t
    · have er : S.rename s t = (S, 1) := by unfold Sf.St.rename; rw [hd, hl, hn]; rfl
      rw [er]
      unfold Sf.isName at hn
      rw [hn] at HIN
      clear h hok e er hd hl hn
      go_enter Tryz.func88, Tryz.ntmps88
      go_wp2_with fail
      refine HFI.out.mono ?_; rintro e w1 ⟨rfl, rfl⟩
      go_wp2_with fail
      refine (HIN.out _).mono ?_; rintro e w2 ⟨rfl, rfl⟩
      go_wp2_with fail
      go_ret
      exact ⟨rfl, HL.out⟩
    · have er : S.rename s t = S.nameDo (.ren s t) := by unfold Sf.St.rename; rw [hd, hl, hn]; rfl
      rw [er]
      unfold Sf.isName at hn
      have ht40 := of_decide_eq_true hn
      rw [hn] at HIN
      have HNS := Lib.hid (nameStep_any (L := Sf.live S.synced (S.chg ++ [.ren s t])) (FsL.weaken h (fun y hy => by
        rcases hy with h5 | ⟨c2, h5, h6⟩
        · exact .inl h5
        · rcases List.mem_append.1 h5 with h7 | h7
          · exact .inr ⟨c2, h7, h6⟩
          · rw [List.mem_singleton.1 h7] at h6; cases h6)) hbase hok hN (.ren s t) ⟨⟨x, hl⟩, by omega⟩ (nm_sizes (.inr ⟨t, rfl⟩) hs))
      clear h hok e er hd hl hn ht40
      go_enter Tryz.func88, Tryz.ntmps88
      go_wp2_with fail
      refine HFI.out.mono ?_; rintro e w1 ⟨rfl, rfl⟩
      go_wp2_with fail
      refine (HIN.out _).mono ?_; rintro e w2 ⟨rfl, rfl⟩
      go_wp2_with fail
      refine HNS.out.mono ?_; rintro e w3 hst
      obtain ⟨he, hleft⟩ := hst.left (fun x hx => hx)
      subst he
      have HLE := Lib.hid hleft
      clear hst hleft
      go_wp2_with fail
      go_ret
      exact ⟨rfl, HLE.out⟩
  · have er : S.rename s t = (S, 11) := by unfold Sf.St.rename; rw [hd, hl]; rfl
    rw [er]
    simp only [e, ptrV, Option.map_none] at HFI
    clear h hok e er hd hl
    go_enter Tryz.func88, Tryz.ntmps88
    go_wp2_with fail
    refine HFI.out.mono ?_; rintro e w1 ⟨rfl, rfl⟩
    go_wp2_with fail
    go_ret
    exact ⟨rfl, HL.out⟩
  · have er : S.rename s t = (S, 13) := by unfold Sf.St.rename; rw [hd]; rfl
    rw [er]
    simp only [e, ptrV, Option.map_none] at HFI
    clear h hok e er hd
    go_enter Tryz.func88, Tryz.ntmps88
    go_wp2_with fail
    refine HFI.out.mono ?_; rintro e w1 ⟨rfl, rfl⟩
    go_wp2_with fail
    go_ret
    exact ⟨rfl, HL.out⟩
set_option maxRecDepth 100000 in
set_option maxHeartbeats 2000000 in
theorem Create_any {w : World} {base fb B N : Nat} {S : Sf.St} (h : FsAt w base fb S) (hbase : base ≤ w.heap.size) (hok : Sf.StOk B N S) (hN : N ≤ 1000) (s : ByteArray) (hs : s.size ≤ maxLen) :
    Calls Tryz.prog 83 #[.pointer (some ⟨fb, 0, none⟩), .string s] w fun e w' => ¬ Sf.live S.synced S.chg w.heap.size ∧ e = .returned (.int .i64 (S.create s w.heap.size).2) ∧ Left w base fb (S.create s w.heap.size).1 w' := by
  have HFI := Lib.hid (find_any h hok.nice s hs)
  have HIN := Lib.hid (fun U => isName_any s hs U)
  have HL := Lib.hid (Left.refl h)
  obtain ⟨w1, hw1⟩ : ∃ w1, w1 = w.alloc (.cells #[.string ⟨#[]⟩, .string ⟨#[]⟩, .slice none 0 0] 84) := ⟨_, rfl⟩
  obtain ⟨xb, hxb⟩ : ∃ xb, xb = w.heap.size := ⟨_, rfl⟩
  obtain ⟨hnl, hnew⟩ := FsL.newFile h hbase
  rw [← hw1, ← hxb] at hnew
  rw [← hxb] at hnl ⊢
  have HNL := Lib.hid hnl
  have hb1 : Below base w w1 := by rw [hw1]; exact (Below.refl _ _).alloc hbase _
  have HW1 := Lib.hid (And.intro hb1 (show Stays w w1 from Stays.below (by rw [hw1]; exact (Below.refl _ _).alloc (Nat.le_refl _) _)))
  rcases Sf.find_cases S s with ⟨x, e, hd, hl⟩ | ⟨e, hd, hl⟩ | ⟨e, hd⟩
  · simp only [e, ptrV, Option.map_some] at HFI
    cases hn : Sf.isName s
    · have er : S.create s xb = (S, 1) := by unfold Sf.St.create; rw [hd, hn]; rfl
      rw [er]
      unfold Sf.isName at hn
      rw [hn] at HIN
      clear h hok e er hd hl hn hnl hnew hb1
      go_enter Tryz.func83, Tryz.ntmps83
      go_wp2_with fail
      refine HFI.out.mono ?_; rintro e w1 ⟨rfl, rfl⟩
      go_wp2_with fail
      refine (HIN.out _).mono ?_; rintro e w2 ⟨rfl, rfl⟩
      go_wp2_with fail
      go_ret
      exact ⟨HNL.out, rfl, HL.out⟩
    · have er : S.create s xb = (S, 12) := by unfold Sf.St.create; rw [hd, hn, hl]; rfl
      rw [er]
      unfold Sf.isName at hn
      rw [hn] at HIN
      clear h hok e er hd hl hn hnl hnew hb1
      go_enter Tryz.func83, Tryz.ntmps83
      go_wp2_with fail
      refine HFI.out.mono ?_; rintro e w1 ⟨rfl, rfl⟩
      go_wp2_with fail
      refine (HIN.out _).mono ?_; rintro e w2 ⟨rfl, rfl⟩
      go_wp2_with fail
      go_ret
      exact ⟨HNL.out, rfl, HL.out⟩
  · simp only [e, ptrV, Option.map_none] at HFI
    cases hn : Sf.isName s
    · have er : S.create s xb = (S, 1) := by unfold Sf.St.create; rw [hd, hn]; rfl
      rw [er]
      unfold Sf.isName at hn
      rw [hn] at HIN
      clear h hok e er hd hl hn hnl hnew hb1
      go_enter Tryz.func83, Tryz.ntmps83
      go_wp2_with fail
      refine HFI.out.mono ?_; rintro e w1 ⟨rfl, rfl⟩
      go_wp2_with fail
      refine (HIN.out _).mono ?_; rintro e w2 ⟨rfl, rfl⟩
      go_wp2_with fail
      go_ret
      exact ⟨HNL.out, rfl, HL.out⟩
    · obtain ⟨mb, sb, cv, cvs, hfs⟩ := h
      have c0 : w.cell? ⟨fb, 0, none⟩ = some (.map (some mb)) := cell_of_row _ _ _ _ _ _ hfs.blk
      have hlen := fun ty => hfs.nam.len Tryz.underlying48 ty
      have hfew := hok.nice.few
      by_cases h64 : 64 ≤ Go.Maps.size S.names
      · have er : S.create s xb = (S, 7) := by unfold Sf.St.create; rw [hd, hn, hl, if_pos h64]; rfl
        rw [er]
        unfold Sf.isName at hn
        rw [hn] at HIN
        have d1 : decide ((64 : Int) ≤ ((Go.Maps.size S.names : Nat) : Int)) = true := decide_eq_true (by omega)
        have d2 : decide (64 ≤ Go.Maps.size S.names) = true := decide_eq_true h64
        clear hfs hok e er hd hl hn hnl hnew hb1 h64 hfew
        generalize Go.Maps.size S.names = sz at *
        go_enter Tryz.func83, Tryz.ntmps83
        go_wp2_with fail
        refine HFI.out.mono ?_; rintro e w1 ⟨rfl, rfl⟩
        go_wp2_with fail
        refine (HIN.out _).mono ?_; rintro e w2 ⟨rfl, rfl⟩
        go_wp2_with fail
        go_ret
        exact ⟨HNL.out, rfl, HL.out⟩
      · have er : S.create s xb = (S.file xb Sf.file0).nameDo (.cre s xb) := by unfold Sf.St.create; rw [hd, hn, hl, if_neg h64]; rfl
        rw [er]
        unfold Sf.isName at hn
        have ht40 := of_decide_eq_true hn
        rw [hn] at HIN
        have d1 : decide ((64 : Int) ≤ ((Go.Maps.size S.names : Nat) : Int)) = false := decide_eq_false (by omega)
        have d2 : decide (64 ≤ Go.Maps.size S.names) = false := decide_eq_false h64
        have HNS := Lib.hid (nameStep_any (S := S.file xb Sf.file0) (L := Sf.live S.synced (S.chg ++ [.cre s xb])) (FsL.weaken hnew (fun y hy => by
          rcases hy with h5 | ⟨c2, h5, h6⟩
          · exact .inl (.inl h5)
          · rcases List.mem_append.1 h5 with h7 | h7
            · exact .inl (.inr ⟨c2, h7, h6⟩)
            · rw [List.mem_singleton.1 h7] at h6
              cases h6
              exact .inr rfl)) (Nat.le_trans hbase hb1.size) (hok.newFile hnl) hN (.cre s xb) (show s.size ≤ 100 by omega) (fun a ha => by
                rcases ha with e | ⟨t, e⟩ <;> cases e))
        clear hfs hok e er hd hl hn hnl hnew hb1 h64 hfew ht40
        generalize Go.Maps.size S.names = sz at *
        go_enter Tryz.func83, Tryz.ntmps83
        go_wp2_with fail
        refine HFI.out.mono ?_; rintro e w2 ⟨rfl, rfl⟩
        go_wp2_with fail
        refine (HIN.out _).mono ?_; rintro e w3 ⟨rfl, rfl⟩
        go_wp2_with fail
        rw [← hw1, ← hxb]
        clear hw1 hxb
        refine HNS.out.mono ?_; rintro e w4 hst
        obtain ⟨he, hleft⟩ := hst.left (fun x hx => hx)
        subst he
        have HLE := Lib.hid (Left.mk hleft.fs (HW1.out.1.trans hleft.bel) (HW1.out.2.trans hleft.st))
        clear hst hleft
        go_wp2_with fail
        go_ret
        exact ⟨HNL.out, rfl, HLE.out⟩
  · have er : S.create s xb = (S, 13) := by unfold Sf.St.create; rw [hd]; rfl
    rw [er]
    simp only [e, ptrV, Option.map_none] at HFI
    clear h hok e er hd hnl hnew hb1
    go_enter Tryz.func83, Tryz.ntmps83
    go_wp2_with fail
    refine HFI.out.mono ?_; rintro e w1 ⟨rfl, rfl⟩
    go_wp2_with fail
    go_ret
    exact ⟨HNL.out, rfl, HL.out⟩
end Go.Proofs.YtfibapfehgglhaaGreatDoor
/-
  A file is another one.
-/
namespace Go.Proofs.YtfibapfehgglhaaGreatDoor
open Go.RowKit
/-- a row behind a row of the call's own: where it lies, too -/
theorem wp_append_row_at {o : Oper} {a : Act} {K : Act → World → Prop} {Q : Exit → Act → World → Prop} (w : World) (s y : Operand) (T E : TypeId)
    (ho : o.op = .call { callee := .builtin .append, args := #[s, y], argTypes := #[T, T] })
    (k by_ : Nat) (z : Value) (ht : Tryz.prog.underlying T = some (.slice E)) (hinfo : (Tryz.prog.info? E).map (fun i => (i.zero, i.size, i.bytes)) = some (some z, k, by_)) (hzs : z.cells.size = k) (hk : 0 < k) (hby : by_ ≤ 1000)
    (base : Nat) (v : Value) (n0 : Nat) (xs : List Value) (hs : a.eval s = v) (hown : w.ownsRow base E k v n0 xs)
    (ad : Addr) (n c : Nat) (x : Nat → Nat → Value) (hx1 : ∀ i j, (x i j).oneCell' = true) (hy : a.eval y = .slice (some ad) n c) (hA : Row k x w (some ad) n) (hsz : n0 + n ≤ 1000000) (hbase : base ≤ w.heap.size)
    (h : ∀ v' w', w'.ownsRow base E k v' (n0 + n) (xs ++ rcells k x n) → w.grownBy w' v.ownBlock → (v'.ownBlock = v.ownBlock ∨ v'.ownBlock = some w.heap.size) → K (a.put o.dst v') w') : o.wp Tryz.prog a w K Q := by
  obtain ⟨i0, hi0, hz0, hz1, hz2⟩ := info_parts hinfo
  have hb2 : (n0 + n) * by_ ≤ 1000000 * 1000 := Nat.mul_le_mul hsz hby
  obtain ⟨v', w', hr, h2, h3, -, h5⟩ := run_append_own_at (P := Tryz.prog) w base T o.type E i0 z k by_ ht hi0 hz0 hz1 hz2 hzs hk v n0 xs hown ad n c (rcells k x n) (rcells_length k x n) (hA.cells hk) (rcells_one hx1 n) (by unfold maxLen; omega) (by omega) hbase
  unfold Oper.wp execOp
  simp only [ho, resolve, invoke, builtin, Sem.run_bind, Sem.run_pure, Result.andThen_ok, List.map_toArray, List.map_cons, List.map_nil, hs, hy, hr]
  exact h v' w' h2 h3 h5
theorem wpList_append_row_at {ops : Array Oper} {rest : List Oper} {o : Oper} {a : Act} {Q : Exit → Act → World → Prop} (w : World) (hgd : o.guard = none) (s y : Operand) (T E : TypeId)
    (ho : o.op = .call { callee := .builtin .append, args := #[s, y], argTypes := #[T, T] })
    (k by_ : Nat) (z : Value) (ht : Tryz.prog.underlying T = some (.slice E)) (hinfo : (Tryz.prog.info? E).map (fun i => (i.zero, i.size, i.bytes)) = some (some z, k, by_)) (hzs : z.cells.size = k) (hk : 0 < k) (hby : by_ ≤ 1000)
    (base : Nat) (v : Value) (n0 : Nat) (xs : List Value) (hs : a.eval s = v) (hown : w.ownsRow base E k v n0 xs)
    (ad : Addr) (n c : Nat) (x : Nat → Nat → Value) (hx1 : ∀ i j, (x i j).oneCell' = true) (hy : a.eval y = .slice (some ad) n c) (hA : Row k x w (some ad) n) (hsz : n0 + n ≤ 1000000) (hbase : base ≤ w.heap.size)
    (h : ∀ v' w', w'.ownsRow base E k v' (n0 + n) (xs ++ rcells k x n) → w.grownBy w' v.ownBlock → (v'.ownBlock = v.ownBlock ∨ v'.ownBlock = some w.heap.size) → wpList Tryz.prog ops Q rest (a.put o.dst v') w') : wpList Tryz.prog ops Q (o :: rest) a w :=
  wpList_plain hgd fun _ hK => wp_append_row_at w s y T E ho k by_ z ht hinfo hzs hk hby base v n0 xs hs hown ad n c x hx1 hy hA hsz hbase (fun v' w' h1 h2 h3 => hK _ _ (h v' w' h1 h2 h3))
theorem file_other {S : Sf.St} {h k : Nat} {x : Sf.File} (hk : k ≠ h) : (S.file h x).F k = S.F k := if_neg hk
theorem file_same {S : Sf.St} {h : Nat} {x : Sf.File} : (S.file h x).F h = x := if_pos rfl
/-- a file's block is turned, its changes are as they were -/
theorem FsIn.refile {w w2 : World} {base fb : Nat} {S : Sf.St} {L : Nat → Prop} {mb sb : Nat} {cv : Value} {cvs : Nat → Value} (h : FsIn w base fb S L mb sb cv cvs) {x : Nat} (hx : L x) (hg : w.grownBy w2 (some x)) (y : Sf.File) (hc : y.chg = (S.F x).chg)
    (hb : w2.heap[x]? = some (.cells #[.string y.bytes, .string y.synced, cvs x] 84 (0, 0))) : FsIn w2 base fb (S.file x y) L mb sb cv cvs := by
  have hbx := (h.fil x hx).blk
  refine ⟨h.lo, h.lom, h.los, h.ne, grown_keep h.blk hg ?_, h.nam.kept hg (fun e => by cases e; exact names_ne h.nam hbx rfl), h.syn.kept hg (fun e => by cases e; exact names_ne h.syn hbx rfl), row_kept h.row hg (fun r e => by cases e; exact own_ne h.row hbx (by decide)), fun k hk => ?_, h.apart⟩
  · rintro rfl
    rw [h.blk] at hbx
    injection hbx with hbx
    injection hbx with _ hbx
    exact absurd hbx (by decide)
  · by_cases e : k = x
    · subst e
      rw [file_same]
      refine ⟨(h.fil k hk).lo, hb, ?_⟩
      rw [hc]
      exact row_kept (h.fil k hk).row hg (fun r e => by cases e; exact own_ne (h.fil k hk).row hbx (by decide))
    · rw [file_other e]
      exact (h.fil k hk).other hg e (own_ne (h.fil k hk).row hbx (by decide))
/-- a change of a file is told -/
theorem FsIn.filePushed {w w2 : World} {base fb : Nat} {S : Sf.St} {L : Nat → Prop} {mb sb : Nat} {cv : Value} {cvs : Nat → Value} (h : FsIn w base fb S L mb sb cv cvs) {x : Nat} (hx : L x) (hg : w.grownBy w2 (cvs x).ownBlock) (c : Sf.Wr) (cv2 : Value)
    (hr : w2.ownsRow base 242 1 cv2 ((S.F x).chg ++ [c]).length (rcells 1 (wx ((S.F x).chg ++ [c])) ((S.F x).chg ++ [c]).length)) (hl : cv2.ownBlock = (cvs x).ownBlock ∨ cv2.ownBlock = some w.heap.size) :
    FsIn (w2.setCell ⟨x, 2, none⟩ cv2) base fb (S.file x ⟨(S.F x).bytes, (S.F x).synced, (S.F x).chg ++ [c]⟩) L mb sb cv (fun k => if k = x then cv2 else cvs k) := by
  have hfx := h.fil x hx
  have hs := grown_setCell w2 x 2 cv2
  have hbx : w2.heap[x]? = some (.cells #[.string (S.F x).bytes, .string (S.F x).synced, cvs x] 84 (0, 0)) := (hg.block x (Array.getElem?_eq_some_iff.1 hfx.blk).1 (fun e => own_ne hfx.row hfx.blk (by decide) e.symm)).trans hfx.blk
  have hblk : w2.heap[fb]? = some (.cells #[.map (some mb), .map (some sb), cv, .int .i64 S.room, .int .i64 S.steps, .int .i64 S.fuse, .bool S.dead] 51 (0, 0)) := (hg.block fb (Array.getElem?_eq_some_iff.1 h.blk).1 (fun e => own_ne hfx.row h.blk (by decide) e.symm)).trans h.blk
  have hnam : NamesAt w2 mb S.names := h.nam.kept hg (fun e => own_ne_map hfx.row h.nam e.symm)
  have hsyn : NamesAt w2 sb S.synced := h.syn.kept hg (fun e => own_ne_map hfx.row h.syn e.symm)
  have hrow := row_kept h.row hg (fun r e => row_apart h.row hfx.row (by decide) e)
  refine ⟨h.lo, h.lom, h.los, h.ne, grown_keep hblk hs ?_, hnam.kept hs (fun e => by cases e; exact names_ne hnam hbx rfl), hsyn.kept hs (fun e => by cases e; exact names_ne hsyn hbx rfl), row_kept hrow hs (fun r e => by cases e; exact own_ne hrow hbx (by decide)), fun k hk => ?_, ?_⟩
  · rintro rfl
    rw [hblk] at hbx
    injection hbx with hbx
    injection hbx with _ hbx
    exact absurd hbx (by decide)
  · by_cases e : k = x
    · subst e
      rw [file_same, if_pos rfl]
      exact ⟨hfx.lo, heap_setCell_same _ k 2 _ _ cv2 hbx, row_kept hr hs (fun r e => by cases e; exact own_ne hr hbx (by decide))⟩
    · rw [file_other e, if_neg e]
      have hfk := h.fil k hk
      have hbk : w2.heap[k]? = some (.cells #[.string (S.F k).bytes, .string (S.F k).synced, cvs k] 84 (0, 0)) := (hg.block k (Array.getElem?_eq_some_iff.1 hfk.blk).1 (fun e => own_ne hfx.row hfk.blk (by decide) e.symm)).trans hfk.blk
      have hrk := row_kept hfk.row hg (fun r e2 => by
        intro e3
        exact h.apart x k hx hk (fun e4 => e e4.symm) r (e2.symm ▸ rfl) e3)
      exact ⟨hfk.lo, grown_keep hbk hs e, row_kept hrk hs (fun r e => by cases e; exact own_ne hrk hbx (by decide))⟩
  · intro a b ha hb hab r hr2
    have hr2 : (if a = x then cv2 else cvs a).ownBlock = some r := hr2
    show (if b = x then cv2 else cvs b).ownBlock ≠ some r
    have hlt : ∀ k, L k → ∀ q, (cvs k).ownBlock = some q → q < w.heap.size := fun k hk q hq => ((h.fil k hk).row.lt q hq).2
    split
    · rename_i e
      rw [if_neg (fun e2 => hab (e2.trans e.symm))] at hr2
      intro e3
      rcases hl with h1 | h1
      · rw [h1] at e3
        exact h.apart a x ha hx (fun e2 => hab (e2.trans e.symm)) r hr2 e3
      · rw [h1] at e3
        cases e3
        exact absurd (hlt a ha _ hr2) (by omega)
    · rename_i e
      split at hr2
      · rename_i e2
        intro e3
        rcases hl with h1 | h1
        · rw [h1] at hr2
          exact h.apart x b hx hb (fun e4 => e e4.symm) r hr2 e3
        · rw [h1] at hr2
          cases hr2
          exact absurd (hlt b hb _ e3) (by omega)
      · exact h.apart a b ha hb hab r hr2
end Go.Proofs.YtfibapfehgglhaaGreatDoor
