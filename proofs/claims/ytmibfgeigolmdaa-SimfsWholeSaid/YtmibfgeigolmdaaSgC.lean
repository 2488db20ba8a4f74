/-
  Calls of a machine of the law's; the fixed example.
-/
import Derived.Test.YtmibfgeigolmdaaSgB
namespace Go.Proofs.Ytmibfgeigolmdaa
open Go.RowKit Go.Maps
section
variable {W : World} {base fb B N : Nat} {S : Sf.St} {wr : World}
theorem Runs.create (h : Runs W base fb B N S wr) (hN : N ≤ 999) (s : ByteArray) (hs : s.size ≤ maxLen) :
    Calls Try.prog 23 #[.pointer (some ⟨fb, 0, none⟩), .string s] wr fun e w' => ∃ y, ¬ Sf.live S.synced S.chg y ∧ e = .returned (.int .i64 (S.create s y).2) ∧ Runs W base fb B (N + 1) (S.create s y).1 w' ∧ Moves wr w' :=
  (Create_any h.fs h.hi h.ok (by omega) s hs).mono fun _ _ ⟨hy, he, hl⟩ => ⟨_, hy, he, h.left hl (h.ok.create s hy), ⟨hl.st, hl.bel.size⟩⟩
theorem Runs.append (h : Runs W base fb B N S wr) (hN : N ≤ 999) (hB : B ≤ 100000000) (s : ByteArray) (hs : s.size ≤ maxLen) (b : ByteArray) (hb : b.size ≤ 300) :
    Calls Try.prog 24 #[.pointer (some ⟨fb, 0, none⟩), .string s, .string b] wr fun e w' => e = .returned (.int .i64 (S.append s b).2) ∧ Runs W base fb (B + 300) (N + 1) (S.append s b).1 w' ∧ Moves wr w' :=
  (Append_any h.fs h.hi h.ok hN hB s hs b hb).mono fun _ _ ⟨he, hl⟩ => ⟨he, h.left hl (h.ok.append s b hb), ⟨hl.st, hl.bel.size⟩⟩
theorem Runs.cut (h : Runs W base fb B N S wr) (hN : N ≤ 999) (hB : B ≤ 1000000000) (s : ByteArray) (hs : s.size ≤ maxLen) (n : Int) :
    Calls Try.prog 25 #[.pointer (some ⟨fb, 0, none⟩), .string s, .int .i64 n] wr fun e w' => e = .returned (.int .i64 (S.cut s n).2) ∧ Runs W base fb B (N + 1) (S.cut s n).1 w' ∧ Moves wr w' :=
  (Cut_any h.fs h.hi h.ok hN hB s hs n).mono fun _ _ ⟨he, hl⟩ => ⟨he, h.left hl (h.ok.cut s n), ⟨hl.st, hl.bel.size⟩⟩
theorem Runs.sync (h : Runs W base fb B N S wr) (hN : N ≤ 999) (s : ByteArray) (hs : s.size ≤ maxLen) :
    Calls Try.prog 20 #[.pointer (some ⟨fb, 0, none⟩), .string s] wr fun e w' => e = .returned (.int .i64 (S.sync s).2) ∧ Runs W base fb B (N + 1) (S.sync s).1 w' ∧ Moves wr w' :=
  (Sync_any h.fs h.hi h.ok hN s hs).mono fun _ _ ⟨he, hl⟩ => ⟨he, h.left hl (h.ok.sync s), ⟨hl.st, hl.bel.size⟩⟩
theorem Runs.dir (h : Runs W base fb B N S wr) (hN : N ≤ 999) :
    Calls Try.prog 21 #[.pointer (some ⟨fb, 0, none⟩)] wr fun e w' => e = .returned (.int .i64 S.dirDo.2) ∧ Runs W base fb B (N + 1) S.dirDo.1 w' ∧ Moves wr w' :=
  (SyncDir_any h.fs h.hi h.ok hN).mono fun _ _ ⟨he, hl⟩ => ⟨he, h.left hl h.ok.dirDo, ⟨hl.st, hl.bel.size⟩⟩
theorem Runs.rename (h : Runs W base fb B N S wr) (hN : N ≤ 999) (a b : ByteArray) (ha : a.size ≤ maxLen) (hb : b.size ≤ maxLen) :
    Calls Try.prog 22 #[.pointer (some ⟨fb, 0, none⟩), .string a, .string b] wr fun e w' => e = .returned (.int .i64 (S.rename a b).2) ∧ Runs W base fb B (N + 1) (S.rename a b).1 w' ∧ Moves wr w' :=
  (Rename_any h.fs h.hi h.ok (by omega) a b ha hb).mono fun _ _ ⟨he, hl⟩ => ⟨he, h.left hl (h.ok.rename a b), ⟨hl.st, hl.bel.size⟩⟩
theorem Runs.remove (h : Runs W base fb B N S wr) (hN : N ≤ 999) (a : ByteArray) (ha : a.size ≤ maxLen) :
    Calls Try.prog 26 #[.pointer (some ⟨fb, 0, none⟩), .string a] wr fun e w' => e = .returned (.int .i64 (S.remove a).2) ∧ Runs W base fb B (N + 1) (S.remove a).1 w' ∧ Moves wr w' :=
  (Remove_any h.fs h.hi h.ok (by omega) a ha).mono fun _ _ ⟨he, hl⟩ => ⟨he, h.left hl (h.ok.remove a), ⟨hl.st, hl.bel.size⟩⟩
theorem Runs.room (h : Runs W base fb B N S wr) (n : Int) (hn : n ≤ 9223372036854775807) :
    Calls Try.prog 27 #[.pointer (some ⟨fb, 0, none⟩), .int .i64 n] wr fun e w' => e = .returned (.tuple #[]) ∧ Runs W base fb B N { S with room := max n 0 } w' ∧ Moves wr w' :=
  (Room_any h.fs h.hi n).mono fun _ _ ⟨he, h1, h2, h3⟩ => ⟨he, h.left ⟨h1, h2, h3⟩ (h.ok.room n hn), ⟨h3, h2.size⟩⟩
theorem Runs.fuse (h : Runs W base fb B N S wr) (n : Int) :
    Calls Try.prog 19 #[.pointer (some ⟨fb, 0, none⟩), .int .i64 n] wr fun e w' => e = .returned (.tuple #[]) ∧ Runs W base fb B N { S with fuse := Sf.fuseOf n } w' ∧ Moves wr w' :=
  (Fuse_any h.fs h.hi n).mono fun _ _ ⟨he, h1, h2, h3⟩ => ⟨he, h.left ⟨h1, h2, h3⟩ (h.ok.setFuse n), ⟨h3, h2.size⟩⟩
end
theorem keep_none (U : World) : KeepIn U none 0 Sf.keep0 := ⟨fun h => absurd h (Nat.lt_irrefl 0), Nat.zero_le _, fun i hi => absurd hi (Nat.not_lt_zero i)⟩
theorem Stays.block {W W2 : World} {g : Nat} {cs : Array Value} {T : TypeId} {fr : Nat × Nat} (hs : Stays W W2) (hg : W.heap[g]? = some (.cells cs T fr)) (hT : T ≠ 52 ∧ T ≠ 65 ∧ T ≠ 57 ∧ T ≠ 89) : W2.heap[g]? = some (.cells cs T fr) := hs _ _ _ _ hg hT.1 hT.2.1 hT.2.2.1 hT.2.2.2
theorem keep_three {U : World} {g : Nat} {fr : Nat × Nat} (h : U.heap[g]? = some (.cells #[.int .i64 1, .int .i64 0, .int .i64 2] 3 fr)) : KeepIn U (some ⟨g, 0, none⟩) 3 Sf.keep3 := by
  refine ⟨fun _ => ⟨⟨g, 0, none⟩, rfl, (Array.getElem?_eq_some_iff.1 h).1, fun i hi j hj => ?_⟩, by decide, fun i hi => ?_⟩
  · obtain rfl : j = 0 := by omega
    have h3 : i < 3 := hi
    rw [Addr.add_lit, Nat.zero_add, Nat.mul_one, Nat.add_zero]
    rcases (show i = 0 ∨ i = 1 ∨ i = 2 by omega) with rfl | rfl | rfl
    · exact cell_of_row _ _ _ _ _ _ h
    · exact cell_of_row _ _ _ _ _ _ h
    · exact cell_of_row _ _ _ _ _ _ h
  · have h3 : i < 3 := hi
    rcases (show i = 0 ∨ i = 1 ∨ i = 2 by omega) with rfl | rfl | rfl <;> decide
set_option maxRecDepth 100000 in
set_option maxHeartbeats 4000000 in
theorem works_any (W : World) : Calls Try.prog 8 #[] W fun e w' => e = .returned (.bool true) ∧ Below W.heap.size W w' := by
  have hxs : (⟨#[120]⟩ : ByteArray).size ≤ maxLen := by decide
  go_enter Try.func8, Try.ntmps8
  go_wp2_with fail
  refine (runs_new (Below.refl W.heap.size W) 100 (by decide)).mono ?_; rintro e w1 ⟨fb, rfl, hr, -⟩
  have R1 := Lib.hid hr; clear hr
  go_wp2_with fail
  refine (R1.out.create (by decide) ⟨#[120]⟩ hxs).mono ?_; rintro e w2 ⟨y, -, rfl, hr, -⟩
  have R2 : Hid (Runs W W.heap.size fb 0 1 (Sf.w1 y) w2) := Lib.hid hr; clear hr R1
  rw [show ((Sf.St.new 100).create ⟨#[120]⟩ y).2 = 0 from congrArg Prod.snd (Sf.ex1 y)]
  go_wp2_with fail
  refine (R2.out.append (by decide) (by decide) ⟨#[120]⟩ hxs ⟨#[97, 98, 99]⟩ (by decide)).mono ?_; rintro e w3 ⟨rfl, hr, -⟩
  have R3 : Hid (Runs W W.heap.size fb 300 2 (Sf.w2 y) w3) := Lib.hid hr; clear hr R2
  rw [show ((Sf.w1 y).append ⟨#[120]⟩ ⟨#[97, 98, 99]⟩).2 = 0 from congrArg Prod.snd (Sf.ex2 y)]
  go_wp2_with fail
  refine (R3.out.sync (by decide) ⟨#[120]⟩ hxs).mono ?_; rintro e w4 ⟨rfl, hr, -⟩
  have R4 : Hid (Runs W W.heap.size fb 300 3 (Sf.w3 y) w4) := Lib.hid hr; clear hr R3
  rw [show ((Sf.w2 y).sync ⟨#[120]⟩).2 = 0 from congrArg Prod.snd (Sf.ex3 y)]
  go_wp2_with fail
  refine (R4.out.size (by decide)).mono ?_; rintro e w5 ⟨rfl, hb5⟩
  have R5 := Lib.hid (R4.out.far hb5); clear hb5 R4
  rw [Sf.ex4 y]
  go_wp2_with fail
  refine (R5.out.crash (by decide) (by decide) (k := Sf.keep0) (fun U _ _ => keep_none U)).mono ?_; rintro e w6 ⟨rfl, hr, -, -⟩
  have R6 : Hid (Runs W W.heap.size fb 300 3 (Sf.w4 y) w6) := Lib.hid hr; clear hr R5
  go_wp2_with fail
  refine (R6.out.read ⟨#[120]⟩ hxs).mono ?_; rintro e w7 ⟨rfl, hb7⟩
  have R7 := Lib.hid (R6.out.far hb7); clear hb7 R6
  rw [show ((Sf.w4 y).read ⟨#[120]⟩).2 = 11 from Sf.ex5 y]
  generalize ((Sf.w4 y).read ⟨#[120]⟩).1 = t7
  go_wp2_with fail
  refine (R7.out.create (by decide) ⟨#[120]⟩ hxs).mono ?_; rintro e w8 ⟨z, -, rfl, hr, -⟩
  have R8 : Hid (Runs W W.heap.size fb 300 4 (Sf.w5 y z) w8) := Lib.hid hr; clear hr R7
  rw [show ((Sf.w4 y).create ⟨#[120]⟩ z).2 = 0 from congrArg Prod.snd (Sf.ex6 y z)]
  go_wp2_with fail
  refine (R8.out.dir (by decide)).mono ?_; rintro e w9 ⟨rfl, hr, -⟩
  have R9 : Hid (Runs W W.heap.size fb 300 5 (Sf.w6 y z) w9) := Lib.hid hr; clear hr R8
  rw [show (Sf.w5 y z).dirDo.2 = 0 from congrArg Prod.snd (Sf.ex7 y z)]
  go_wp2_with fail
  refine (R9.out.append (by decide) (by decide) ⟨#[120]⟩ hxs ⟨#[97, 98, 99]⟩ (by decide)).mono ?_; rintro e wa ⟨rfl, hr, -⟩
  have RA : Hid (Runs W W.heap.size fb 600 6 (Sf.w7 y z) wa) := Lib.hid hr; clear hr R9
  rw [show ((Sf.w6 y z).append ⟨#[120]⟩ ⟨#[97, 98, 99]⟩).2 = 0 from congrArg Prod.snd (Sf.ex8 y z)]
  go_wp2_with fail
  obtain ⟨wk, hwk⟩ : ∃ wk, wk = wa.alloc (.cells #[.int .i64 1, .int .i64 0, .int .i64 2] 3) := ⟨_, rfl⟩
  obtain ⟨g, hg⟩ : ∃ g, g = wa.heap.size := ⟨_, rfl⟩
  have hbk : Below wa.heap.size wa wk := by rw [hwk]; exact (Below.refl _ _).alloc (Nat.le_refl _) _
  have hck : wk.heap[g]? = some (.cells #[.int .i64 1, .int .i64 0, .int .i64 2] 3 (0, 0)) := by rw [hwk, hg]; exact heap_alloc_new wa _
  rw [← hwk, ← hg]
  have RK := Lib.hid (RA.out.far hbk)
  have HCK := Lib.hid hck
  clear hwk hg hbk hck RA
  refine (RK.out.crash (by decide) (by decide) (k := Sf.keep3) (A := some ⟨g, 0, none⟩) (kc := 3) (fun U _ hs => keep_three (hs.block HCK.out (by decide)))).mono ?_; rintro e wb ⟨rfl, hr, -, -⟩
  have RB : Hid (Runs W W.heap.size fb 600 6 (Sf.w8 y z) wb) := Lib.hid hr; clear hr RK HCK
  go_wp2_with fail
  refine (RB.out.read ⟨#[120]⟩ hxs).mono ?_; rintro e wc ⟨rfl, hbc⟩
  have RC := Lib.hid (RB.out.far hbc); clear hbc RB
  rw [show (Sf.w8 y z).read ⟨#[120]⟩ = (⟨#[97, 98]⟩, 0) from Sf.ex9 y z]
  obtain ⟨e1, e2, -⟩ := Sf.w8_all y z
  have HS := Lib.hid e2
  have HN := Lib.hid e1
  clear e1 e2
  have b0 : ((⟨#[97, 98]⟩ : ByteArray).toList == (⟨#[97, 98]⟩ : ByteArray).toList) = true := by rw [str_beq]; decide
  go_wp2_with fail
  refine (Steps_any RC.out.fs).mono ?_; rintro e wd ⟨rfl, rfl⟩
  rw [HS.out]
  go_wp2_with fail
  refine (RC.out.list).mono ?_; rintro e we ⟨A, c, rfl, -, hbe⟩
  have RE := Lib.hid (RC.out.far hbe); clear hbe RC
  rw [show (Sf.list (Sf.w8 y z).names).length = 1 by rw [HN.out, Sf.one_list]; rfl]
  go_wp2_with fail
  refine (Dead_any RE.out.fs).mono ?_; rintro e wf ⟨rfl, rfl⟩
  rw [show (Sf.w8 y z).dead = false from rfl]
  go_wp2_with fail
  go_ret
  exact ⟨rfl, RE.out.bel⟩
end Go.Proofs.Ytmibfgeigolmdaa
