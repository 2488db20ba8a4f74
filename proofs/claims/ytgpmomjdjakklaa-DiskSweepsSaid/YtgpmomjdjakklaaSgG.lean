/-
  Files that are synced, one behind the other.
-/
import Derived.Test.YtgpmomjdjakklaaSgF
namespace Go.Proofs.Ytgpmomjdjakklaa
open Go.RowKit Go.Maps
namespace Sf
/-- behind the syncs of the first names -/
structure Synced (S T : St) (l : List (List UInt8)) (j : Nat) : Prop where
  nam : T.names = S.names
  dead : T.dead = S.dead
  fuse : T.fuse = S.fuse
  bytes : ∀ x, (T.F x).bytes = (S.F x).bytes
  done : S.dead = false → ∀ i, i < j → ∀ x, look S.names (bs (l.getD i [])) = some x → T.F x = whole (S.F x).bytes
theorem Synced.zero (S : St) (l : List (List UInt8)) : Synced S S l 0 := ⟨rfl, rfl, rfl, fun _ => rfl, fun _ i hi => absurd hi (Nat.not_lt_zero i)⟩
theorem Synced.read {S T : St} {l : List (List UInt8)} {j : Nat} (h : Synced S T l j) (s : ByteArray) : T.read s = S.read s := by
  unfold St.read St.find
  rw [h.dead, h.nam]
  cases S.dead
  · cases look S.names s with
    | none => rfl
    | some x =>
      show ((T.F x).bytes, _) = ((S.F x).bytes, _)
      rw [h.bytes]
  · rfl
theorem Synced.succ {S T : St} {l : List (List UInt8)} {j x : Nat} (h : Synced S T l j) (hf : S.fuse = -1) (hx : look S.names (bs (l.getD j [])) = some x) : Synced S (T.sync (bs (l.getD j []))).1 l (j + 1) := by
  cases hd : S.dead
  · rw [sync_yes (h.dead.trans hd) (by rw [h.nam]; exact hx) (by rw [h.fuse, hf]; decide)]
    have hF : ∀ z, (T.tick.file x (whole (T.F x).bytes)).F z = if z = x then whole (S.F x).bytes else T.F z := fun z => by
      show (if z = x then whole (T.F x).bytes else T.F z) = _
      rw [h.bytes x]
    refine ⟨h.nam, h.dead, ?_, fun z => ?_, fun _ i hi z hz => ?_⟩
    · show (if 0 < T.fuse then T.fuse - 1 else T.fuse) = S.fuse
      rw [h.fuse, hf]
      rfl
    · rw [hF]
      split
      · rename_i e; rw [e]; rfl
      · exact h.bytes z
    · rw [hF]
      split
      · rename_i e; rw [e]
      · rename_i e
        have hij : i < j := by
          rcases Nat.lt_succ_iff_lt_or_eq.1 hi with h1 | h1
          · exact h1
          · rw [h1, hx] at hz
            exact absurd (Option.some.inj hz).symm e
        exact h.done hd i hij z hz
  · have e : T.sync (bs (l.getD j [])) = (T, 13) := by
      unfold St.sync
      rw [h.dead, hd]
      rfl
    rw [e]
    exact ⟨h.nam, h.dead, h.fuse, h.bytes, fun h2 => by rw [hd] at h2; cases h2⟩
theorem Synced.whole {S T : St} {j : Nat} (h : Synced S T (list S.names) j) (hj : (list S.names).length ≤ j) (hk : KS S.names) (hd : S.dead = false) : Whole (T.tick.dir) :=
  ⟨rfl, rfl, fun s x hx => by
    have hx2 : look S.names s = some x := by
      have : look T.names s = some x := hx
      rwa [h.nam] at this
    obtain ⟨i, hi, e⟩ := mem_list hk hx2
    exact ⟨_, h.done hd i (by omega) x (by rw [e]; exact hx2)⟩⟩
theorem dir_read (T : St) (s : ByteArray) : T.tick.dir.read s = T.read s := rfl
theorem Synced.again {S T : St} {j : Nat} (h : Synced S T (list S.names) j) (hj : (list S.names).length ≤ j) (hk : KS S.names) (hn : Nice S.names) (hd : S.dead = false) (k : Keep) {i : Nat} (hi : i < (list S.names).length) :
    (T.tick.dir.crash k).read (bs ((list S.names).getD i [])) = ((S.read (bs ((list S.names).getD i []))).1, 0) := by
  have hw := h.whole hj hk hd
  have e : T.tick.dir.names = S.names := h.nam
  have hd2 : T.tick.dir.dead = false := h.dead.trans hd
  have := again_read hw k (i := i) hd2 (by rw [e]; exact hn) (by rw [e]; exact hk) (by rw [e]; exact hi)
  rw [e, dir_read, h.read] at this
  exact this
end Sf
end Go.Proofs.Ytgpmomjdjakklaa
