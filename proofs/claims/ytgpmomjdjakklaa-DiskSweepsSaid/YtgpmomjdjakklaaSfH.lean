/-
  Create, Rename, Remove.
-/
import Derived.Test.YtgpmomjdjakklaaSfG
namespace Go.Proofs.Ytgpmomjdjakklaa
open Go.RowKit
namespace Sf
def file0 : File := ⟨⟨#[]⟩, ⟨#[]⟩, []⟩
theorem file0_ok (B N : Nat) : FileOk B N file0 := ⟨rfl, trivial, Nat.zero_le _, Nat.zero_le _⟩
theorem StOk.naming {B N : Nat} {S : St} {c : Nm} (h : StOk B N S) (hc : c.ok S.names) (hn : Nice (c.app S.names)) (hF : ∀ x, c.mk = some x → FileOk B N (S.F x)) : StOk B (N + 1) (S.tick.naming c) := by
  have ht := h.tick
  refine ⟨?_, ?_, ?_, ?_, ht.f1, ht.f2, ht.s1, ht.s2, ht.r1, ht.r2⟩
  · show c.app S.names = Sf.names S.synced (S.chg ++ [c])
    rw [names_snoc, ← h.nam]
  · show hist S.synced (S.chg ++ [c])
    exact hist_snoc _ _ h.his (by rw [← h.nam]; exact hc) (by rw [← h.nam]; exact hn)
  · intro x hx
    show FileOk B (N + 1) (S.F x)
    rcases hx with h1 | ⟨c2, h2, e⟩
    · exact (h.file x (.inl h1)).mono (Nat.le_refl _) (Nat.le_succ _)
    · have h2 : c2 ∈ S.chg ++ [c] := h2
      rcases List.mem_append.1 h2 with h3 | h3
      · exact (h.file x (.inr ⟨c2, h3, e⟩)).mono (Nat.le_refl _) (Nat.le_succ _)
      · rw [List.mem_singleton.1 h3] at e
        exact (hF x e).mono (Nat.le_refl _) (Nat.le_succ _)
  · show (S.chg ++ [c]).length ≤ N + 1
    have := h.few
    rw [List.length_append, List.length_singleton]
    omega
theorem StOk.kill {B N : Nat} {S : St} (h : StOk B N S) : StOk B N S.kill := ⟨h.nam, h.his, h.file, h.few, h.f1, h.f2, h.s1, h.s2, h.r1, h.r2⟩
theorem StOk.newFile {B N : Nat} {S : St} (h : StOk B N S) {x : Nat} {y : File} (hx : ¬ live S.synced S.chg x) : StOk B N (S.file x y) :=
  ⟨h.nam, h.his, fun k hk => by
    show FileOk B N (if k = x then y else S.F k)
    rw [if_neg (fun e => hx (by rw [← e]; exact hk))]
    exact h.file k hk, h.few, h.f1, h.f2, h.s1, h.s2, h.r1, h.r2⟩
def isName (s : ByteArray) : Bool := decide (0 < s.size ∧ s.size ≤ 40)
/-- a change of names: a step -/
def St.nameDo (S : St) (c : Nm) : St × Int := if S.fuse = 0 then (S.kill, 13) else (S.tick.naming c, 0)
def St.create (S : St) (s : ByteArray) (h : Nat) : St × Int :=
  if S.dead then (S, 13) else if isName s = false then (S, 1) else if (look S.names s).isSome then (S, 12) else if 64 ≤ Go.Maps.size S.names then (S, 7) else (S.file h file0).nameDo (.cre s h)
def St.rename (S : St) (a b : ByteArray) : St × Int :=
  if S.dead then (S, 13) else match look S.names a with
  | none => (S, 11)
  | some _ => if isName b = false then (S, 1) else S.nameDo (.ren a b)
def St.remove (S : St) (a : ByteArray) : St × Int :=
  if S.dead then (S, 13) else match look S.names a with
  | none => (S, 11)
  | some _ => S.nameDo (.rem a)
end Sf
theorem FsIn.weaken {w : World} {base fb : Nat} {S : Sf.St} {L L2 : Nat → Prop} {mb sb : Nat} {cv : Value} {cvs : Nat → Value} (h : FsIn w base fb S L mb sb cv cvs) (hl : ∀ x, L2 x → L x) : FsIn w base fb S L2 mb sb cv cvs :=
  ⟨h.lo, h.lom, h.los, h.ne, h.blk, h.nam, h.syn, h.row, fun x hx => h.fil x (hl x hx), fun x y hx hy => h.apart x y (hl x hx) (hl y hy)⟩
theorem FsL.weaken {w : World} {base fb : Nat} {S : Sf.St} {L L2 : Nat → Prop} (h : FsL w base fb S L) (hl : ∀ x, L2 x → L x) : FsL w base fb S L2 := by
  obtain ⟨mb, sb, cv, cvs, h⟩ := h
  exact ⟨mb, sb, cv, cvs, h.weaken hl⟩
theorem FsL.far {w w2 : World} {base fb : Nat} {S : Sf.St} {L : Nat → Prop} (h : FsL w base fb S L) (hb : Below w.heap.size w w2) : FsL w2 base fb S L := by
  obtain ⟨mb, sb, cv, cvs, h⟩ := h
  exact ⟨mb, sb, cv, cvs, h.far hb⟩
/-- a new file -/
theorem FsL.newFile {w : World} {base fb : Nat} {S : Sf.St} {L : Nat → Prop} (h : FsL w base fb S L) (hbase : base ≤ w.heap.size) :
    ¬ L w.heap.size ∧ FsL (w.alloc (.cells #[.string ⟨#[]⟩, .string ⟨#[]⟩, .slice none 0 0] 66)) base fb (S.file w.heap.size Sf.file0) (fun x => L x ∨ x = w.heap.size) := by
  obtain ⟨mb, sb, cv, cvs, h⟩ := h
  have hn : ∀ x, L x → x ≠ w.heap.size := fun x hx e => by
    have := (Array.getElem?_eq_some_iff.1 (h.fil x hx).blk).1
    omega
  refine ⟨fun hL => hn _ hL rfl, mb, sb, cv, fun x => if x = w.heap.size then .slice none 0 0 else cvs x, ?_⟩
  have hf := h.far ((Below.refl w.heap.size w).alloc (Nat.le_refl _) (.cells #[.string ⟨#[]⟩, .string ⟨#[]⟩, .slice none 0 0] 66))
  refine ⟨hf.lo, hf.lom, hf.los, hf.ne, hf.blk, hf.nam, hf.syn, hf.row, ?_, ?_⟩
  · rintro x (hx | rfl)
    · have e1 : (S.file w.heap.size Sf.file0).F x = S.F x := if_neg (hn x hx)
      rw [e1]
      show FileAt _ _ _ _ (if x = w.heap.size then .slice none 0 0 else cvs x)
      rw [if_neg (hn x hx)]
      exact hf.fil x hx
    · have e1 : (S.file w.heap.size Sf.file0).F w.heap.size = Sf.file0 := if_pos rfl
      rw [e1]
      show FileAt _ _ _ _ (if w.heap.size = w.heap.size then .slice none 0 0 else cvs w.heap.size)
      rw [if_pos rfl]
      exact ⟨hbase, heap_alloc_new w _, World.ownsRow_nil _ _ _ _⟩
  · intro x y hx hy hxy r hr
    have hr2 : (if x = w.heap.size then Value.slice none 0 0 else cvs x).ownBlock = some r := hr
    show (if y = w.heap.size then Value.slice none 0 0 else cvs y).ownBlock ≠ some r
    split
    · intro e; cases e
    · rename_i hy2
      split at hr2
      · cases hr2
      · rename_i hx2
        rcases hx with hx | hx
        · rcases hy with hy | hy
          · exact hf.apart x y hx hy hxy r hr2
          · exact absurd hy hy2
        · exact absurd hx hx2
/-- what an operation leaves -/
structure Left (w : World) (base fb : Nat) (S2 : Sf.St) (w' : World) : Prop where
  fs : FsAt w' base fb S2
  bel : Below base w w'
  st : Stays w w'
theorem Left.refl {w : World} {base fb : Nat} {S : Sf.St} (h : FsAt w base fb S) : Left w base fb S w := ⟨h, Below.refl _ _, Stays.refl _⟩
/-- a step of names that leaves a machine -/
theorem Stepped.left {w : World} {base fb : Nat} {S : Sf.St} {c : Sf.Nm} {e : Ending} {w' : World} {L : Nat → Prop} (h : Stepped w base fb S (S.tick.naming c) L e w') (hl : ∀ x, Sf.live S.synced (S.chg ++ [c]) x → L x) :
    e = .returned (.int .i64 (S.nameDo c).2) ∧ Left w base fb (S.nameDo c).1 w' := by
  unfold Sf.St.nameDo
  rcases h with ⟨h0, h1, h2, h3, h4⟩ | ⟨h0, h1, h2, h3, h4⟩
  · rw [if_pos h0]
    refine ⟨h1, h2.weaken (fun x hx => hl x ?_), h3, h4⟩
    rcases hx with h5 | ⟨c2, h5, h6⟩
    · exact .inl h5
    · exact .inr ⟨c2, List.mem_append_left _ h5, h6⟩
  · rw [if_neg h0]
    exact ⟨h1, h2.weaken hl, h3, h4⟩
end Go.Proofs.Ytgpmomjdjakklaa
