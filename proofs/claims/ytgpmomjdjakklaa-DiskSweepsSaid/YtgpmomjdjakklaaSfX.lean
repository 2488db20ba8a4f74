/-
  What is done keeps a machine one that may be.
-/
import Derived.Test.YtgpmomjdjakklaaSfW
namespace Go.Proofs.Ytgpmomjdjakklaa
open Go.RowKit Go.Maps
namespace Sf
theorem StOk.put {B N : Nat} {S : St} (h : StOk B N S) {x : Nat} {y : File} (hy : FileOk B N y) : StOk B N (S.file x y) :=
  ⟨h.nam, h.his, (fun k hk => by
    show FileOk B N (if k = x then y else S.F k)
    split
    · exact hy
    · exact h.file k hk), h.few, h.f1, h.f2, h.s1, h.s2, h.r1, h.r2⟩
theorem StOk.fileDo {B N : Nat} {S : St} (h : StOk B N S) {x : Nat} {y : File} (hy : FileOk B (N + 1) y) : StOk B (N + 1) (S.fileDo x y).1 := by
  unfold St.fileDo
  split
  · exact h.kill.mono (Nat.le_refl _) (Nat.le_succ _)
  · exact h.tick.put hy
theorem StOk.cut {B N : Nat} {S : St} (h : StOk B N S) (s : ByteArray) (n : Int) : StOk B (N + 1) (S.cut s n).1 := by
  have h1 := h.mono (Nat.le_refl B) (Nat.le_succ N)
  unfold St.cut
  split
  · exact h1
  · split
    · exact h1
    · rename_i x hx
      split
      · exact h1
      · rename_i hn
        refine h.fileDo ((h.file x (h.lives hx)).change ?_)
        show n.toNat ≤ (S.F x).bytes.size
        omega
theorem StOk.append {B N : Nat} {S : St} (h : StOk B N S) (s b : ByteArray) (hb : b.size ≤ 300) : StOk (B + 300) (N + 1) (S.append s b).1 := by
  have h1 := h.mono (Nat.le_add_right B 300) (Nat.le_succ N)
  unfold St.append
  split
  · exact h1
  · split
    · exact h1
    · rename_i x hx
      split
      · exact h1
      · have hf := h.file x (h.lives hx)
        have hz := FileOk.size hf
        refine (h.mono (Nat.le_add_right B 300) (Nat.le_refl N)).fileDo ((hf.mono (Nat.le_add_right B 300) (Nat.le_refl N)).change ?_)
        show (S.F x).bytes.size + b.size ≤ B + 300
        omega
theorem StOk.sync {B N : Nat} {S : St} (h : StOk B N S) (s : ByteArray) : StOk B (N + 1) (S.sync s).1 := by
  have h1 := h.mono (Nat.le_refl B) (Nat.le_succ N)
  unfold St.sync
  split
  · exact h1
  · split
    · exact h1
    · rename_i x hx
      exact h.fileDo (whole_ok (FileOk.size (h.file x (h.lives hx))))
theorem StOk.dir {B N : Nat} {S : St} (h : StOk B N S) : StOk B N S.dir :=
  ⟨rfl, h.nice, (fun x hx => by
    rcases hx with ⟨s, hs⟩ | ⟨c, hc, -⟩
    · exact h.file x (h.lives hs)
    · cases hc), Nat.zero_le _, h.f1, h.f2, h.s1, h.s2, h.r1, h.r2⟩
theorem StOk.dirDo {B N : Nat} {S : St} (h : StOk B N S) : StOk B (N + 1) S.dirDo.1 := by
  unfold St.dirDo
  split
  · exact h.mono (Nat.le_refl B) (Nat.le_succ N)
  · split
    · exact h.kill.mono (Nat.le_refl _) (Nat.le_succ _)
    · exact h.tick.dir
theorem StOk.nameDo {B N : Nat} {S : St} {c : Nm} (h : StOk B N S) (hc : c.ok S.names) (hn : Nice (c.app S.names)) (hF : ∀ x, c.mk = some x → FileOk B N (S.F x)) : StOk B (N + 1) (S.nameDo c).1 := by
  unfold St.nameDo
  split
  · exact h.kill.mono (Nat.le_refl _) (Nat.le_succ _)
  · exact h.naming hc hn hF
theorem isName_le {s : ByteArray} (h : ¬ isName s = false) : s.size ≤ 100 := by
  unfold isName at h
  simp at h
  omega
theorem StOk.create {B N : Nat} {S : St} (h : StOk B N S) (s : ByteArray) {x : Nat} (hx : ¬ live S.synced S.chg x) : StOk B (N + 1) (S.create s x).1 := by
  have h1 := h.mono (Nat.le_refl B) (Nat.le_succ N)
  unfold St.create
  split
  · exact h1
  · split
    · exact h1
    · rename_i hnm
      split
      · exact h1
      · split
        · exact h1
        · rename_i hz
          have h2 : StOk B N (S.file x file0) := h.newFile hx
          have hs := isName_le hnm
          refine h2.nameDo (c := .cre s x) hs (nice_cre h.nice hs (fun t ht => hx (h.lives ht)) (by omega)) (fun y hy => ?_)
          cases hy
          show FileOk B N (if x = x then file0 else S.F x)
          rw [if_pos rfl]
          exact file0_ok B N
theorem StOk.rename {B N : Nat} {S : St} (h : StOk B N S) (a b : ByteArray) : StOk B (N + 1) (S.rename a b).1 := by
  have h1 := h.mono (Nat.le_refl B) (Nat.le_succ N)
  unfold St.rename
  split
  · exact h1
  · split
    · exact h1
    · rename_i x hx
      split
      · exact h1
      · rename_i hnm
        exact h.nameDo (c := .ren a b) ⟨⟨x, hx⟩, isName_le hnm⟩ (nice_ren h.nice hx (isName_le hnm)) (fun y hy => by cases hy)
theorem StOk.remove {B N : Nat} {S : St} (h : StOk B N S) (a : ByteArray) : StOk B (N + 1) (S.remove a).1 := by
  have h1 := h.mono (Nat.le_refl B) (Nat.le_succ N)
  unfold St.remove
  split
  · exact h1
  · split
    · exact h1
    · rename_i x hx
      exact h.nameDo (c := .rem a) (h.nice.short a (look_some hx)) (nice_rem h.nice a) (fun y hy => by cases hy)
/-- a file of which a name was met is whole -/
theorem crashTo_whole (k : Keep) (d : D) (l : List (List UInt8)) (S : St) {x : Nat} : ∀ j i, i < j → look d (bs (l.getD i [])) = some x → ∃ b, (crashTo k d l S j).F x = whole b
  | 0, _, h, _ => absurd h (Nat.not_lt_zero _)
  | j + 1, i, h, hx => by
    unfold crashTo
    split
    · rename_i y hy
      by_cases e : x = y
      · exact ⟨_, if_pos e⟩
      · have hij : i < j := by
          rcases Nat.lt_succ_iff_lt_or_eq.1 h with h2 | h2
          · exact h2
          · rw [h2, hy] at hx; exact absurd (Option.some.inj hx).symm e
        obtain ⟨b, hb⟩ := crashTo_whole k d l S j i hij hx
        exact ⟨b, (if_neg e).trans hb⟩
    · rename_i hy
      have hij : i < j := by
        rcases Nat.lt_succ_iff_lt_or_eq.1 h with h2 | h2
        · exact h2
        · rw [h2, hy] at hx; cases hx
      exact crashTo_whole k d l S j i hij hx
/-- whole files stay as they are -/
theorem crashTo_still (k : Keep) (d : D) (l : List (List UInt8)) (S : St) (hw : ∀ s x, look d s = some x → ∃ b, S.F x = whole b) : ∀ j x, (crashTo k d l S j).F x = S.F x
  | 0, _ => rfl
  | j + 1, x => by
    unfold crashTo
    split
    · rename_i y hy
      show (if x = y then _ else (crashTo k d l S j).F x) = S.F x
      split
      · rename_i e
        subst e
        obtain ⟨b, hb⟩ := hw _ _ hy
        rw [crashTo_still k d l S hw j x, hb, whole_survive]
      · exact crashTo_still k d l S hw j x
    · exact crashTo_still k d l S hw j x
end Sf
end Go.Proofs.Ytgpmomjdjakklaa
