/-
  Calls of a machine of the law's; the fixed example.
-/
import Derived.Test.YtgpmomjdjakklaaSgB
namespace Go.Proofs.Ytgpmomjdjakklaa
open Go.RowKit Go.Maps
section
variable {W : World} {base fb B N : Nat} {S : Sf.St} {wr : World}
theorem Runs.create (h : Runs W base fb B N S wr) (hN : N ≤ 999) (s : ByteArray) (hs : s.size ≤ maxLen) :
    Calls Try.prog 19 #[.pointer (some ⟨fb, 0, none⟩), .string s] wr fun e w' => ∃ y, ¬ Sf.live S.synced S.chg y ∧ e = .returned (.int .i64 (S.create s y).2) ∧ Runs W base fb B (N + 1) (S.create s y).1 w' ∧ Moves wr w' :=
  (Create_any h.fs h.hi h.ok (by omega) s hs).mono fun _ _ ⟨hy, he, hl⟩ => ⟨_, hy, he, h.left hl (h.ok.create s hy), ⟨hl.st, hl.bel.size⟩⟩
theorem Runs.append (h : Runs W base fb B N S wr) (hN : N ≤ 999) (hB : B ≤ 100000000) (s : ByteArray) (hs : s.size ≤ maxLen) (b : ByteArray) (hb : b.size ≤ 300) :
    Calls Try.prog 20 #[.pointer (some ⟨fb, 0, none⟩), .string s, .string b] wr fun e w' => e = .returned (.int .i64 (S.append s b).2) ∧ Runs W base fb (B + 300) (N + 1) (S.append s b).1 w' ∧ Moves wr w' :=
  (Append_any h.fs h.hi h.ok hN hB s hs b hb).mono fun _ _ ⟨he, hl⟩ => ⟨he, h.left hl (h.ok.append s b hb), ⟨hl.st, hl.bel.size⟩⟩
theorem Runs.cut (h : Runs W base fb B N S wr) (hN : N ≤ 999) (hB : B ≤ 1000000000) (s : ByteArray) (hs : s.size ≤ maxLen) (n : Int) :
    Calls Try.prog 49 #[.pointer (some ⟨fb, 0, none⟩), .string s, .int .i64 n] wr fun e w' => e = .returned (.int .i64 (S.cut s n).2) ∧ Runs W base fb B (N + 1) (S.cut s n).1 w' ∧ Moves wr w' :=
  (Cut_any h.fs h.hi h.ok hN hB s hs n).mono fun _ _ ⟨he, hl⟩ => ⟨he, h.left hl (h.ok.cut s n), ⟨hl.st, hl.bel.size⟩⟩
theorem Runs.sync (h : Runs W base fb B N S wr) (hN : N ≤ 999) (s : ByteArray) (hs : s.size ≤ maxLen) :
    Calls Try.prog 32 #[.pointer (some ⟨fb, 0, none⟩), .string s] wr fun e w' => e = .returned (.int .i64 (S.sync s).2) ∧ Runs W base fb B (N + 1) (S.sync s).1 w' ∧ Moves wr w' :=
  (Sync_any h.fs h.hi h.ok hN s hs).mono fun _ _ ⟨he, hl⟩ => ⟨he, h.left hl (h.ok.sync s), ⟨hl.st, hl.bel.size⟩⟩
theorem Runs.dir (h : Runs W base fb B N S wr) (hN : N ≤ 999) :
    Calls Try.prog 35 #[.pointer (some ⟨fb, 0, none⟩)] wr fun e w' => e = .returned (.int .i64 S.dirDo.2) ∧ Runs W base fb B (N + 1) S.dirDo.1 w' ∧ Moves wr w' :=
  (SyncDir_any h.fs h.hi h.ok hN).mono fun _ _ ⟨he, hl⟩ => ⟨he, h.left hl h.ok.dirDo, ⟨hl.st, hl.bel.size⟩⟩
theorem Runs.rename (h : Runs W base fb B N S wr) (hN : N ≤ 999) (a b : ByteArray) (ha : a.size ≤ maxLen) (hb : b.size ≤ maxLen) :
    Calls Try.prog 34 #[.pointer (some ⟨fb, 0, none⟩), .string a, .string b] wr fun e w' => e = .returned (.int .i64 (S.rename a b).2) ∧ Runs W base fb B (N + 1) (S.rename a b).1 w' ∧ Moves wr w' :=
  (Rename_any h.fs h.hi h.ok (by omega) a b ha hb).mono fun _ _ ⟨he, hl⟩ => ⟨he, h.left hl (h.ok.rename a b), ⟨hl.st, hl.bel.size⟩⟩
theorem Runs.remove (h : Runs W base fb B N S wr) (hN : N ≤ 999) (a : ByteArray) (ha : a.size ≤ maxLen) :
    Calls Try.prog 25 #[.pointer (some ⟨fb, 0, none⟩), .string a] wr fun e w' => e = .returned (.int .i64 (S.remove a).2) ∧ Runs W base fb B (N + 1) (S.remove a).1 w' ∧ Moves wr w' :=
  (Remove_any h.fs h.hi h.ok (by omega) a ha).mono fun _ _ ⟨he, hl⟩ => ⟨he, h.left hl (h.ok.remove a), ⟨hl.st, hl.bel.size⟩⟩
theorem Runs.room (h : Runs W base fb B N S wr) (n : Int) (hn : n ≤ 9223372036854775807) :
    Calls Try.prog 15 #[.pointer (some ⟨fb, 0, none⟩), .int .i64 n] wr fun e w' => e = .returned (.tuple #[]) ∧ Runs W base fb B N { S with room := max n 0 } w' ∧ Moves wr w' :=
  (Room_any h.fs h.hi n).mono fun _ _ ⟨he, h1, h2, h3⟩ => ⟨he, h.left ⟨h1, h2, h3⟩ (h.ok.room n hn), ⟨h3, h2.size⟩⟩
theorem Runs.fuse (h : Runs W base fb B N S wr) (n : Int) :
    Calls Try.prog 11 #[.pointer (some ⟨fb, 0, none⟩), .int .i64 n] wr fun e w' => e = .returned (.tuple #[]) ∧ Runs W base fb B N { S with fuse := Sf.fuseOf n } w' ∧ Moves wr w' :=
  (Fuse_any h.fs h.hi n).mono fun _ _ ⟨he, h1, h2, h3⟩ => ⟨he, h.left ⟨h1, h2, h3⟩ (h.ok.setFuse n), ⟨h3, h2.size⟩⟩
end
theorem keep_none (U : World) : KeepIn U none 0 Sf.keep0 := ⟨fun h => absurd h (Nat.lt_irrefl 0), Nat.zero_le _, fun i hi => absurd hi (Nat.not_lt_zero i)⟩
theorem Stays.block {W W2 : World} {g : Nat} {cs : Array Value} {T : TypeId} {fr : Nat × Nat} (hs : Stays W W2) (hg : W.heap[g]? = some (.cells cs T fr)) (hT : T ≠ 50 ∧ T ≠ 66 ∧ T ≠ 58 ∧ T ≠ 88) : W2.heap[g]? = some (.cells cs T fr) := hs _ _ _ _ hg hT.1 hT.2.1 hT.2.2.1 hT.2.2.2
theorem keep_three {U : World} {g : Nat} {fr : Nat × Nat} (h : U.heap[g]? = some (.cells #[.int .i64 1, .int .i64 0, .int .i64 2] 3 fr)) : KeepIn U (some ⟨g, 0, none⟩) 3 Sf.keep3 := by
  refine ⟨fun _ => ⟨⟨g, 0, none⟩, rfl, (Array.getElem?_eq_some_iff.1 h).1, fun i hi j hj => ?_⟩, by decide, fun i hi => ?_⟩
  · obtain rfl : j = 0 := by omega
    have h3 : i < 3 := hi
    rw [Addr.add_lit, Nat.zero_add, Nat.mul_one, Nat.add_zero]
    rcases (show i = 0 ∨ i = 1 ∨ i = 2 by omega) with rfl | rfl | rfl
    · exact cell_of_row _ _ _ _ _ _ h
    · exact cell_of_row _ _ _ _ _ _ h
    · exact cell_of_row _ _ _ _ _ _ h
  · have h3 : i < 3 := hi
    rcases (show i = 0 ∨ i = 1 ∨ i = 2 by omega) with rfl | rfl | rfl <;> decide
end Go.Proofs.Ytgpmomjdjakklaa
